import Derived.Test.YtnfeiginmngknaaGreatFZ32
import Derived.Test.YtnfeiginmngknaaGreatFZ27
namespace Go.Proofs.YtnfeiginmngknaaGreat
set_option maxRecDepth 100000
set_option linter.unusedVariables false
set_option linter.unusedSimpArgs false
open Go.ChangeShapes Go.WideShapes Go.ChangeAt Go.RowKit
def cu(maps:List (List zq))(f:Int):Int:=if 0<=f then(kT (maps[f.toNat]?.getD []):Nat)else 0
set_option maxHeartbeats 3200000 in
theorem qap(maps:List (List zq))(f:Int)(A:Option Addr)(c:Nat)(w:World)(hM:zd (zM vd 2) 1 w w.heap.size A c maps)(hz:ZS 4000 maps):
  Calls Tryz.prog 157 #[.slice A maps.length c,.int .i64 f] w fun e w'=>e= .returned (.int .i64 (cu maps f))/\Below w.heap.size w w':=by
 have Zd:=zH hM;have vl:=zH hz;clear hM hz;by_cases h0:0<=f;rotate_left
 ·have hlt:f<0:=by omega
  have e:cu maps f=0:=by unfold cu;omega
  rw[e];clear e;go_enter Tryz.func157,Tryz.ntmps157;go_wp2_with fail
  go_ret;exact⟨rfl,zb _ _⟩
 by_cases h1:f<maps.length;rotate_left
 ·have hlt:¬f<0:=by omega
  have hge:f >= (maps.length:Int):=by omega
  have e:cu maps f=0:=by unfold cu;rw[Xb h0,XE (by omega)];rfl
  rw[e];clear e;go_enter Tryz.func157,Tryz.ntmps157;go_wp2_with fail
  go_ret;exact⟨rfl,zb _ _⟩
 obtain⟨k,rfl⟩:=Xj h0;have hk:k<maps.length:=by omega
 have i0:¬(k:Int)<0:=by omega
 have i1:¬(k:Int) >= (maps.length:Int):=by omega
 obtain⟨S,hS⟩:=zj (maps[k]);have HR:Hid (cu maps (k:Int)=(kT S:Nat)):=zH (by unfold cu;grind);obtain⟨Zt,rfl,oI,A1,cS,r0,jd⟩:=Zd.out.row.at_ hk;rw[hS]at r0 jd;rw[Xq]at r0;have hSZ:∀s ∈S,s.stack.length<=4000:=by rw[<-hS];exact(vl.out maps[k] (Xd hk)).2
 have Vl:=zH hSZ;have iW:=zH jd;have hs1:=jd.le;have hs2:=jd.cap;obtain⟨r,hr⟩:=zj (cu maps (k:Int));rw[hr]at HR⊢
 clear h0 h1 hS jd hSZ hr;have HX0:=qP w;go_enter Tryz.func157,Tryz.ntmps157;go_wp2_with fail
 clear r0;go_loopw [5,21] (fun d i wr=>∃pc:Nat,pc<=S.length/\i= .int .i64 pc/\d= .int .i64 (kT (S.take pc):Nat)/\Hid (Below w.heap.size w wr)) (fun _ i _=>S.length - (intOf i).toNat)
 case atStart=>exact⟨0,Xn _,rfl,rfl,HX0⟩
 case round=>
  clear HX0;obtain⟨pc,hpc,rfl,rfl,HX⟩:=hrel;obtain⟨D,hD⟩:=zj (kT (S.take pc));have HD:=zH hD;by_cases hp:pc<S.length
  ·obtain⟨Yh,rfl,xm,s0,At,ct,s1,hst⟩:=iW.out.row.at_ hp;have HT:Hid (kT (S.take (pc+1))=eU D S[pc]):=zH (by rw[Un hp,hD]);generalize S[pc]=s at*
   have s0:=(HX.out.cell (p:=Yh.add (pc*2)) (by grind [zC])).trans s0;have s1:=(HX.out.cell (p:=zc (Yh.add (pc*2)) 1) (by grind [zC])).trans s1;have hsz:=HX.out.size;rw[hD];clear hD hst xm;by_cases hg:D<s.stack.length
   ·have hgi:(s.stack.length:Int)>(D:Int):=by omega
    have HY:Hid (kT (S.take (pc+1))=s.stack.length):=zH (by rw[HT.out];unfold eU;grind);go_wp2_with fail
    go_roundw;case rel=>exact⟨pc+1,by omega,by go_num,by rw[HY.out],zH (HX.out.alloc hsz _)⟩
    case measure=>simp[intOf];omega
   ·have hgi:¬(s.stack.length:Int)>(D:Int):=by omega
    have HY:Hid (kT (S.take (pc+1))=D):=zH (by rw[HT.out];unfold eU;rw[Xa hg]);go_wp2_with fail
    go_roundw;case rel=>exact⟨pc+1,by omega,by go_num,by rw[HY.out],zH (HX.out.alloc hsz _)⟩
    case measure=>simp[intOf];omega
  ·have hpi:¬(pc:Int)<(S.length:Int):=by omega
   have HF:Hid (r=(D:Int)):=zH (by rw[HR.out,<-HD.out,XA (by omega)]);rw[hD];clear hD;go_wp2_with fail
   go_ret;exact⟨by rw[HF.out];first|rfl|done,HX.out⟩
theorem qfk{maps:List (List zq)}{f r:Int}{A:Option Addr}{c n:Nat}{w:World}(HS:Hid (zd (zM vd 2) 1 w w.heap.size A c maps))(HZ:Hid (ZS 4000 maps))(HN:Hid (maps.length=n))(HR:Hid (cu maps f=r)):
  Calls Tryz.prog 157 #[.slice A n c,.int .i64 f] w fun e w'=>e= .returned (.int .i64 r)/\Below w.heap.size w w':=by
 obtain rfl:=HN.out;have H:=qap maps f A c w HS.out HZ.out;rw[HR.out]at H;exact H
set_option maxHeartbeats 3200000 in
theorem q9b(m:za)(maps:List (List zq))(f:Int)(A:Option Addr)(c:Nat)(h:zh)(w:World)(H:zr w w.heap.size h m)(hm:zP m)(hM:zd (zM vd 2) 1 w w.heap.size A c maps)(hz:ZS 4000 maps):
  Calls Tryz.prog 115 #[zv h m,.slice A maps.length c,.int .i64 f] w fun e w'=>e= .returned (.int .i64 (jy m maps f))/\Below w.heap.size w w':=by
 have HW:=zH (vU (w:=w) (h:=h) (m:=m));have HBX:=zH (qd w h m);have HI:=zH (H.now HW.out);have Zd:=zH (jP Vp.keeps hM HW.out);have vl:=zH hz;have HM:=zH hm;have hle:=H.methods.le;have hcap:=H.methods.cap;have hl1:=hM.le;clear H hM hz hm;by_cases h0:0<=f;rotate_left
 ·have hlt:f<0:=by omega
  have e:jy m maps f=0:=by unfold jy;omega
  rw[e];clear e;go_enter Tryz.func115,Tryz.ntmps115;go_upto_region 1 with fail
  generalize w.alloc (ze h m)=w1 at*
  go_wp2_with fail
  go_ret;exact⟨rfl,HW.out⟩
 by_cases h1:f<m.methods.length;rotate_left
 ·have hlt:¬f<0:=by omega
  have hge:f >= (m.methods.length:Int):=by omega
  have e:jy m maps f=0:=by unfold jy;omega
  rw[e];clear e;go_enter Tryz.func115,Tryz.ntmps115;go_upto_region 1 with fail
  generalize w.alloc (ze h m)=w1 at*
  obtain⟨q0,q1,q2,q3,q4,q5,q6⟩:=HBX.out;go_wp2_with fail
  go_ret;exact⟨rfl,HW.out⟩
 obtain⟨k,rfl⟩:=Xj h0;have Ym:k<m.methods.length:=by omega
 have i0:¬(k:Int)<0:=by omega
 have i1:¬(k:Int) >= (m.methods.length:Int):=by omega
 obtain⟨ad,hx,eA,hab,hin,hc⟩:=Zx HI.out Ym;obtain⟨D,hD⟩:=zj (kT (maps[k]?.getD []));have hfr:jy m maps (k:Int)=3+m.methods[k].args.length+m.methods[k].locals.length+D:=by
  unfold jy zA
  grind
 have GU:Hid (cu maps (k:Int)=(D:Int)):=zH (by unfold cu;grind);have hall:=(HM.out.method (Xd Ym)).all;have hd0:D<=4000:=by
  rw[<-hD];cases hs:maps[k]? with
  |none=>exact Xn _
  |some S=>exact ER (fun s hs'=>(vl.out S (by grind)).2 s hs')
 have ha1:=hin.args.cap;have ha2:=hin.args.le;have ha3:=hin.locals.cap;have Hr:=hin.locals.le;obtain⟨A0,Ab,A2,A3,A4,k0,k1,k2,k3,k4⟩:=h;obtain⟨fK,fE,nW,ow,fI,gH,oO,nK⟩:=hx;dsimp only at eA hle hcap ha1 ha2 ha3 Hr;subst eA;have Vi:=zH hc;generalize m.methods[k]=x at*
 clear h0 h1 hin hD hc;have HF:=zH hfr;obtain⟨b,hb⟩:=zj (jy m maps (k:Int));rw[hb]at HF⊢
 clear hfr hb;obtain⟨nm,hnm⟩:∃z,maps.length=z:=⟨_,rfl⟩
 have Qc:=zH hnm;rw[hnm]at hl1⊢
 clear hnm;go_enter Tryz.func115,Tryz.ntmps115;go_upto_region 1 with fail
 generalize w.alloc (ze ⟨A0,Ab,A2,some ad,A4,k0,k1,k2,k3,k4⟩ m)=w1 at*
 obtain⟨q0,q1,q2,q3,q4,q5,q6⟩:=HBX.out;obtain⟨c0,c1,c2,c3,c4,c5,c6,c7⟩:=Vi.out;dsimp only at c0 c1 c2 c3 c4 c5 c6 c7;go_upto_region 4 with fail
 have YJ:=zH (qr w1 [.slice fK x.args.length fI,.slice fE x.locals.length gH,.int .i64 x.ret.1,.int .i64 x.ret.2,.slice nW x.code.length oO,.int .i64 x.depth,.int .i64 x.pot,.slice ow x.phi.length nK] 48);have HA2:Hid (Below w1.heap.size w1 (w1.alloc (.cells ([.slice fK x.args.length fI,.slice fE x.locals.length gH,.int .i64 x.ret.1,.int .i64 x.ret.2,.slice nW x.code.length oO,.int .i64 x.depth,.int .i64 x.pot,.slice ow x.phi.length nK]:List Value).toArray 48))):=zH (zk);have HZ2:Hid (w1.heap.size<(w1.alloc (.cells ([.slice fK x.args.length fI,.slice fE x.locals.length gH,.int .i64 x.ret.1,.int .i64 x.ret.2,.slice nW x.code.length oO,.int .i64 x.depth,.int .i64 x.pot,.slice ow x.phi.length nK]:List Value).toArray 48)).heap.size):=zH (by simp);generalize w1.alloc (.cells ([.slice fK x.args.length fI,.slice fE x.locals.length gH,.int .i64 x.ret.1,.int .i64 x.ret.2,.slice nW x.code.length oO,.int .i64 x.depth,.int .i64 x.pot,.slice ow x.phi.length nK]:List Value).toArray 48)=w2 at*
 have HAD:Hid (Below w1.heap.size w1 w2.drew):=zH HA2.out.drew;have uC:Hid (zd (zM vd 2) 1 w2.drew w2.drew.heap.size A c maps):=zH (jP Vp.keeps Zd.out HAD.out);have jC:Hid (∀W,Below w2.drew.heap.size w2.drew W->(fun w'=>w'.cell? ⟨w1.heap.size,0,none⟩=some (.slice fK x.args.length fI)/\w'.cell? ⟨w1.heap.size,1,none⟩=some (.slice fE x.locals.length gH)) W):=zH (fun W hW=>by
  have hz:w1.heap.size<w2.drew.heap.size:=HZ2.out;exact⟨(hW.cell (p:=⟨w1.heap.size,0,none⟩) hz).trans (YJ.out 0 _ rfl),(hW.cell (p:=⟨w1.heap.size,1,none⟩) hz).trans (YJ.out 1 _ rfl)⟩)
 have HRF:Hid (Below w2.drew.heap.size w2.drew w2.drew):=zH (zb _ _);clear c0 c1 c2 c3 c4 c5 c6 c7;go_region_held3 (fun w'=>w'.cell? ⟨w1.heap.size,0,none⟩=some (.slice fK x.args.length fI)/\w'.cell? ⟨w1.heap.size,1,none⟩=some (.slice fE x.locals.length gH)) (first|exact jC.out _ HRF.out|exact jC.out _ qc.out) (first
  |(go_at_call 157;(with_reducible refine(qfk uC vl Qc GU).mono ?_);rintro e w5 ⟨rfl,hb⟩;have qc:=zH hb;clear hb))
 go_wp2_with fail
 go_ret;have E1:IntKind.i64.wrap (3+(x.args.length:Int))=3+(x.args.length:Int):=by rw[IntKind.wrap_i64];omega
 have E2:IntKind.i64.wrap (3+(x.args.length:Int)+(x.locals.length:Int))=3+(x.args.length:Int)+(x.locals.length:Int):=by rw[IntKind.wrap_i64];omega
 have E3:IntKind.i64.wrap (3+(x.args.length:Int)+(x.locals.length:Int)+(D:Int))=3+(x.args.length:Int)+(x.locals.length:Int)+(D:Int):=by rw[IntKind.wrap_i64];omega
 exact⟨by rw[HF.out];simp[E1,E2,E3],HW.out.trans ((zD HAD qc).mono HW.out.size)⟩
theorem Sm{m:za}{maps:List (List zq)}{f r:Int}{A:Option Addr}{c n:Nat}{h:zh}{w0 w:World}(HI:Hid (zr w0 w0.heap.size h m))(HX:Hid (Below w0.heap.size w0 w))(HM:Hid (zP m))(HS:Hid (zd (zM vd 2) 1 w w.heap.size A c maps))(HZ:Hid (ZS 4000 maps))(HN:Hid (maps.length=n))(HR:Hid (jy m maps f=r)):
  Calls Tryz.prog 115 #[zv h m,.slice A n c,.int .i64 f] w fun e w'=>e= .returned (.int .i64 r)/\Below w.heap.size w w':=by
 obtain rfl:=HN.out;have H:=q9b m maps f A c h w (HI.out.now HX.out) HM.out HS.out HZ.out;rw[HR.out]at H;exact H
def vW(m:za)(cyc:Bool)(g:Nat):Int:=if cyc=true then(zA m (g:Int)).depth else 1
def JY(m:za)(maps:List (List zq))(cyc:Bool)(g:Nat):Int:=vW m cyc g*jy m maps (g:Int)
theorem q7q{m:za}{cyc:Bool}{p:List Nat}{k:Nat}(h:k<p.length)(h0:∀g ∈p.take k,vW m cyc g≠0)(h1:vW m cyc p[k]≠0):∀g ∈p.take (k+1),vW m cyc g≠0:=(by grind [Xx,Xc])
def WX(m:za)(maps:List (List zq))(cyc:Bool)(p:List Nat)(w:World)(e:Ending)(w':World):Prop:=
 ∃(s:Int) (ok:Bool),e= .returned (.tuple #[.int .i64 s,.bool ok])/\(ok=false->∃g ∈p,vW m cyc g=0)/\(ok=true->(∀g ∈p,vW m cyc g≠0)/\s=ZX (JY m maps cyc) p)/\Below w.heap.size w w'
theorem TF{m:za}{cyc:Bool}(hm:zP m){g:Nat}(hg:g<m.methods.length):0<=vW m cyc g/\vW m cyc g<=8:=by
 have hx:zA m (g:Int) ∈m.methods:=by unfold zA;grind
 have h1:=(hm.method hx).fits.d0;have h2:=(hm.method hx).fits.d1;unfold vW;omega
theorem KP{m:za}{maps:List (List zq)}{cyc:Bool}(hm:zP m)(hz:ZS 4000 maps)(g:Nat):0<=JY m maps cyc g/\JY m maps cyc g<=32088:=by
 unfold JY;rcases Xl g m.methods.length with q|q
 ·have h1:=TF (cyc:=cyc) hm q;have h2:=Ef (f:=(g:Int)) hm hz;have h3:0<=jy m maps (g:Int):=Ai;have h4:vW m cyc g*jy m maps (g:Int)<=8*4011:=Int.mul_le_mul h1.2 h2 h3 (by omega);exact⟨Int.mul_nonneg h1.1 h3,by omega⟩
 ·have:jy m maps (g:Int)=0:=by unfold jy;omega
  grind
set_option maxHeartbeats 6400000 in
theorem q9c(m:za)(maps:List (List zq))(cyc:Bool)(p:List Nat)(A R:Option Addr)(c cr:Nat)(h:zh)(w:World)(H:zr w w.heap.size h m)(hm:zP m)(hM:zd (zM vd 2) 1 w w.heap.size A c maps)(hz:ZS 4000 maps)
  (hR:zw w w.heap.size R (qe p)) (hp:∀g ∈p,g<m.methods.length) (hpl:p.length<=12):
  Calls Tryz.prog 61 #[zv h m,.slice A maps.length c,.slice R p.length cr,.bool cyc] w (WX m maps cyc p w):=by
 have HW:=zH (vU (w:=w) (h:=h) (m:=m));have HBX:=zH (qd w h m);have HZ:Hid (w.heap.size<(w.alloc (ze h m)).heap.size):=zH (by simp);have HI:=zH (H.now HW.out);have Zd:=zH (jP Vp.keeps hM HW.out);have ky:Hid (zw (w.alloc (ze h m)) (w.alloc (ze h m)).heap.size R (qe p)):=zH ((hR.below HW.out).more HW.out.size);have vl:=zH hz;have HM:=zH hm;have HP:=zH hp;have hle:=H.methods.le;have hcap:=H.methods.cap;have hl1:=hM.le;obtain⟨nm,hnm⟩:∃z,maps.length=z:=⟨_,rfl⟩
 have Qc:=zH hnm;rw[hnm]at hl1⊢
 clear H hM hz hm hR hp hnm;have HX0:Hid (Below (w.alloc (ze h m)).heap.size (w.alloc (ze h m)) (w.alloc (ze h m))):=zH (zb _ _);go_enter Tryz.func61,Tryz.ntmps61;go_upto_region 1 with fail
 generalize w.alloc (ze h m)=w1 at*
 go_wp2_with fail
 go_loopw [8,15] (fun s i wr=>∃k:Nat,k<=p.length/\i= .int .i64 k/\s= .int .i64 (ZX (JY m maps cyc) (p.take k))/\Hid (∀g ∈p.take k,vW m cyc g≠0)/\Hid (Below w1.heap.size w1 wr)) (fun _ i _=>p.length - (intOf i).toNat)
 case atStart=>exact⟨0,Xn _,rfl,rfl,(by grind [zH]),HX0⟩
 case round=>
  clear HX0;obtain⟨k,hk,rfl,rfl,jc,HX⟩:=hrel;have uC:=zH (jP Vp.keeps Zd.out HX.out);obtain⟨q0,q1,q2,q3,q4,q5,q6⟩:=HBX.out.keep HX.out HZ.out;obtain⟨S,hS⟩:∃z,ZX (JY m maps cyc) (p.take k)=z:=⟨_,rfl⟩
  have iM:=Iy (C:=JY m maps cyc) (c:=p.take k) (M:=32088) (by omega) (KP HM.out vl.out);rw[hS]at iM;have hSt:((p.take k).length:Int)*32088<=12*32088:=(by grind)
  obtain⟨hS0,hS1⟩:=iM;have hS2:S<=385056:=by omega
  have HS:=zH hS;rw[hS];clear hS hSt hS1;by_cases hlt:k<p.length
  ·obtain⟨g,hg⟩:=zj (p[k]);have hgm:=HP.out p[k] (by grind);obtain⟨ar,rfl,har,r0⟩:=ky.out k (.int .i64 (g:Int)) (by unfold qe;grind);have r0:=(HX.out.cell (p:=ar.add k) (by grind [zC])).trans r0;have HTK:Hid (ZX (JY m maps cyc) (p.take (k+1))=S+JY m maps cyc g):=zH (by rw[qax hlt,HS.out,hg]);have qO:Hid (vW m cyc g≠0->∀g ∈p.take (k+1),vW m cyc g≠0):=zH (fun h=>q7q hlt jc.out (by grind));have Cs:Hid (g ∈p):=(by grind [zH,Xd])
   rw[hg]at hgm;obtain⟨ad,hx,eA,hab,hin,hc⟩:=Zx HI.out hgm;have c5:=(HX.out.cell (p:=zc (ad.add (g*8)) 5) (by grind [zC])).trans hc.c5;have VN:zA m (g:Int)=m.methods[g]:=by unfold zA;grind
   have hxd:=(HM.out.method (Xd hgm)).fits.d0;have q1p:=(HM.out.method (Xd hgm)).fits.d1;have xe:Hid (vW m cyc g=if cyc=true then m.methods[g].depth else 1):=zH (by unfold vW;rw[VN]);generalize m.methods[g]=x at*
   clear q0 q1 q2 q3 q4 q5 q6;obtain⟨A0,Ab,A2,A3,A4,k0,k1,k2,k3,k4⟩:=h;dsimp only at eA hle hcap;subst eA;obtain⟨q0,q1,q2,q3,q4,q5,q6⟩:=HBX.out.keep HX.out HZ.out;obtain⟨FR,j5⟩:∃z,jy m maps (g:Int)=z:=⟨_,rfl⟩
   have VZ:=zH j5;have hF0:0<=FR:=by rw[<-j5];exact Ai
   have hF1:FR<=4011:=by rw[<-j5];exact Ef HM.out vl.out
   clear hg hin hc VN j5 har hab;cases cyc
   ·have ZH:Hid (vW m false g=1):=zH (by rw[xe.out];rfl);have sI:Hid (JY m maps false g=(1:Int)*FR):=zH (by unfold JY;rw[ZH.out,VZ.out]);go_wp2_with(go_at_call 115;(with_reducible refine(Sm HI HX HM uC vl Qc VZ).mono ?_);rintro e w5 ⟨rfl,hb⟩;have qc:=zH (HX.out.trans (hb.mono HX.out.size));clear hb)
    go_roundw;case rel=>exact⟨k+1,by omega,by go_num,by rw[HTK.out,sI.out];first|rfl|simp,zH (qO.out (by rw[ZH.out];decide)),qc⟩
    case measure=>simp[intOf];omega
   have ZH:Hid (vW m true g=x.depth):=zH (by rw[xe.out];rfl);have sI:Hid (JY m maps true g=x.depth*FR):=zH (by unfold JY;rw[ZH.out,VZ.out]);have uq:0<=x.depth*FR:=by rw[<-sI.out];exact(KP HM.out vl.out g).1
   have hP1:x.depth*FR<=32088:=by rw[<-sI.out];exact(KP HM.out vl.out g).2
   generalize x.depth=D at*
   by_cases hd:D=0
   ·have HD0:Hid (vW m true g=0):=zH (ZH.out.trans hd);subst hd;go_wp2_with fail
    refine Xk (v:= .tuple #[.int .i64 0,.bool false]) (by simp[results,Tryz.results61,go_sem]) rfl ?_;exact⟨0,false,rfl,fun _=>⟨g,Cs.out,HD0.out⟩,(fun e=>by cases e),HW.out.trans (HX.out.mono (Xg HZ.out))⟩
   ·have hd0:(D==0)=false:=by simpa using hd
    go_wp2_with(go_at_call 115;(with_reducible refine(Sm HI HX HM uC vl Qc VZ).mono ?_);rintro e w5 ⟨rfl,hb⟩;have qc:=zH (HX.out.trans (hb.mono HX.out.size));clear hb)
    go_roundw;case rel=>exact⟨k+1,by omega,by go_num,by rw[HTK.out,sI.out],zH (qO.out (by rw[ZH.out];exact hd)),qc⟩
    case measure=>simp[intOf];omega
  ·obtain rfl:k=p.length:=by omega
   have HF:Hid (S=ZX (JY m maps cyc) p):=zH (by rw[<-HS.out,XL]);have HNF:Hid (∀g ∈p,vW m cyc g≠0):=zH (by have:=jc.out;rwa [XL]at this);go_wp2_with fail
   refine Xk (v:= .tuple #[.int .i64 S,.bool true]) (by simp[results,Tryz.results61,go_sem]) rfl ?_;exact⟨S,true,rfl,(fun e=>by cases e),fun _=>⟨HNF.out,HF.out⟩,HW.out.trans (HX.out.mono (Xg HZ.out))⟩
theorem qe7{m:za}{maps:List (List zq)}{cyc:Bool}{p:List Nat}{A R:Option Addr}{c cr n k:Nat}{h:zh}{w0 w:World}(HI:Hid (zr w0 w0.heap.size h m))(HX:Hid (Below w0.heap.size w0 w))(HM:Hid (zP m))(HS:Hid (zd (zM vd 2) 1 w w.heap.size A c maps))(HZ:Hid (ZS 4000 maps))(HN:Hid (maps.length=n))
  (HR:Hid (zw w w.heap.size R (qe p))) (HP:Hid ((∀g ∈p,g<m.methods.length)/\p.length<=12)) (HK:Hid (p.length=k)):
  Calls Tryz.prog 61 #[zv h m,.slice A n c,.slice R k cr,.bool cyc] w (WX m maps cyc p w):=by
 obtain rfl:=HN.out;obtain rfl:=HK.out;exact q9c m maps cyc p A R c cr h w (HI.out.now HX.out) HM.out HS.out HZ.out HR.out HP.out.1 HP.out.2
def Uy(m:za)(maps:List (List zq))(w:World)(e:Ending)(w':World):Prop:=∃A n c er,e= .returned (.tuple #[.slice A n c,.int .i64 er])/\Below w.heap.size w w'/\(kQ m=false->er=5/\n=0)/\(kQ m=true->er=0/\n=m.methods.length/\zd zu 1 w' w'.heap.size A c (vV m maps)/\∀ad,A=some ad->w.heap.size<=ad.block)
theorem qc9{w:World}{B c g i:Nat}{A:Option Addr}{P:List (List Nat)}{v:Value}(h:eY w B A c P)(hg:g<B):eY (w.setCell ⟨g,i,none⟩ v) B A c P:=
 h.keep (by simp) (by grind [XJ])
theorem q4e{m:za}{f:Nat}{b:Bool}(h:jH (vK m) m.methods.length f f=b):bR m f=vW m b f:=by
 unfold bR vW;rw[h]
theorem qet{m:za}{f:Nat}{b:Bool}(h:jH (vK m) m.methods.length f f=b)(h0:vW m b f=0):aF m f=true:=by
 unfold aF;rw[h];unfold vW at h0
 grind
theorem q8f{m:za}{f:Nat}{b:Bool}(hm:zP m)(hf:f<m.methods.length)(h:jH (vK m) m.methods.length f f=b)(h0:vW m b f≠0):aF m f=false:=by
 have hl:=(TF (cyc:=b) hm hf).1;unfold aF;rw[h];unfold vW at h0 hl
 grind
theorem qh6{w:World}{gi g i:Nat}{xs:List Value}{v:Value}(h:zw w w.heap.size (some ⟨gi,0,none⟩) xs)(hg:gi≠g):zw (w.setCell ⟨g,i,none⟩ v) (w.setCell ⟨g,i,none⟩ v).heap.size (some ⟨gi,0,none⟩) xs:=fun j u hu=>by
 obtain⟨ad,e,hb,hc⟩:=h j u hu
 grind [XU,XJ,zC]
set_option maxHeartbeats 12800000 in
theorem q9d(m:za)(maps:List (List zq))(A:Option Addr)(c:Nat)(h:zh)(w:World)(H:zr w w.heap.size h m)(hs:Ql m=true)(hM:zd (zM vd 2) 1 w w.heap.size A c maps)(hz:ZS 4000 maps):
  Calls Tryz.prog 37 #[zv h m,.slice A maps.length c] w (Uy m maps w):=by
 obtain⟨i1,hi1,hy0,hy1,hy2⟩:=jJ ZL;have HW:=zH (vU (w:=w) (h:=h) (m:=m));have HBX:=zH (qd w h m);have HZ:Hid (w.heap.size<(w.alloc (ze h m)).heap.size):=zH (by simp);have HI:=zH (H.now HW.out);have Zd:=zH (jP Vp.keeps hM HW.out);have vl:=zH hz;have hm:=Dz hs;have HM:=zH hm;have hl1:=hM.le;obtain⟨n,hn⟩:=zj (m.methods.length);have fO:n<=12:=by grind [Io]
 have HN:=zH hn;have HGC:Hid (m.classes.length<=1000/\m.methods.length<=1000/\∀x ∈m.methods,x.code.length<=1048576):=zH ⟨by have:=hm.fits.cl;omega,by omega,fun x hx=>by have:=(hm.method hx).fits.cl;omega⟩;obtain⟨EL,Ya⟩:=zj (vK m);have kG:=zH Ya;have r9:Hid (EL.length=n):=(by grind [zH,Ei])
 have hrow:∀g:Nat,(EL[g]?.getD []).length<=12:=fun g=>by
  rw[<-Ya];rcases Xl g m.methods.length with q|q
  ·grind [WH,Ur]
  ·rw[XE (by rw[Ei];exact q)]
   grind
 have Yi:Hid (Jl EL n/\∀g:Nat,(EL[g]?.getD []).length<=12):=(by grind [zH,Lg])
 have uB:Hid (∀l ∈EL,l.length<=1048576):=zH (fun l hl=>by
  obtain⟨i,hi,rfl⟩:=List.mem_iff_getElem.mp hl;have:=hrow i
  grind)
 obtain⟨nm,hnm⟩:∃z,maps.length=z:=⟨_,rfl⟩
 have Qc:=zH hnm;rw[hnm]at hl1⊢
 clear H hM hz hs hn Ya hnm hrow hm;have HX:Hid (Below (w.alloc (ze h m)).heap.size (w.alloc (ze h m)) (w.alloc (ze h m))):=zH (zb _ _);go_enter Tryz.func37,Tryz.ntmps37;go_upto_region 1 with fail
 generalize w.alloc (ze h m)=w1 at*
 obtain⟨q0,q1,q2,q3,q4,q5,q6⟩:=HBX.out;go_upto_region 2 with(go_at_call 59;(with_reducible refine(qe5 HI HX HGC HN kG).mono ?_);rintro e w2 ⟨gE,rfl,hg1,hg2,hs,hb⟩;have HE2:=zH hs;have HX2:=zH hb;clear hg1 hg2 hs hb)
 clear HX q0 q1 q2 q3 q4 q5 q6;go_upto_region 3 with(at_make;refine wpList_make_full _ rfl _ _ 27 rfl w2.heap.size 3 i1 (.int .i64 0) 1 Tryz.underlying27 hi1 hy0 hy1 .i64 .i64 _ _ n rfl rfl rfl rfl (by grind) (by unfold maxLen;omega) (zn _) ?_;intro w3 hown hgrow;have qa:=zH hown;have HB3:=zH ((zb w2.heap.size w2).grown hgrow (zn _) (by grind));clear hown hgrow)
 have aS:Hid (qk w3 w2.heap.size (List.replicate n 0)):=zH (by
  have h1:=o5 qa.out;rw[mi (v:= .int .i64 0) rfl]at h1;unfold qk;simp_all)
 obtain⟨gB,hgB⟩:∃z,w2.heap.size=z:=⟨_,rfl⟩
 have qR:Hid (w2.heap.size<=gB):=zH (by omega);have qls:Hid (w1.heap.size<=gB):=zH (by rw[<-hgB];exact HX2.out.size);have q1y:Hid (gB<w3.heap.size):=zH (by rw[<-hgB];exact zm.lt aS.out);rw[hgB]at aS;clear qa;try simp only[hgB]
 clear hgB;have VP:Hid (zd (zM zu 1) 1 w3 w3.heap.size (some ⟨gE,0,none⟩) n EL):=zH (jP (zM.keeps zu.keeps 1) HE2.out HB3.out);go_upto_region 4 with(go_at_call 60;(with_reducible refine(qb3 VP r9 fO uB).mono ?_);rintro e w4 ⟨Ap,cp,P,rfl,hr,hpa,hb⟩;have HR:=zH hr;have oD:=zH hpa;have jw:=zH (HB3.out.trans (hb.mono HB3.out.size));have oG:=zH (aS.out.keep hb);clear hr hpa hb)
 have hpl1:=oD.out.le;have hpl2:=oD.out.cap;have fP:Hid (dw EL n (jT m maps) P 0 (List.replicate n 0)):=zH dw.start;have hPl:P.length<=12:=by
  have h1:P.length<=P.flatten.length:=by
   have h2:∀Q:List (List Nat),(∀c ∈Q,c≠ [])->Q.length<=Q.flatten.length:=by
    intro Q
    induction Q with
    |nil=>grind
    |cons c Q ih=>
     intro hq;have h3:=ih (fun c hc=>hq c (XY _ hc));have h4:=List.length_pos_iff.mpr (hq c (XV ..))
     grind
   exact h2 P (fun c hc=>(HR.out.srt c hc).1)
  have h2:P.flatten.length<=n:=wF HR.out.nod HR.out.lt;omega
 generalize(List.replicate n (0:Int))=O0 at*
 clear aS VP;try simp only[HN.out]
 go_loopw [23] (fun i wr=>∃(k:Nat) (O:List Int),k<=P.length/\i= .int .i64 k/\Hid (dw EL n (jT m maps) P k O)/\Hid (∀j,(hj:j<P.length)->j<k->∀g ∈P[j],aF m g=false)/\Hid (qk wr gB O)/\Hid (eY wr w3.heap.size Ap cp P)/\Hid (Below w2.heap.size w2 wr)) (fun i _=>P.length - (intOf i).toNat)
 case atStart=>exact⟨0,O0,Xn _,rfl,fP,(by grind [zH]),oG,oD,jw⟩
 case round=>
  clear fP oG oD jw;obtain⟨i,O,hi,rfl,fP,jZ,aS,oD,HV⟩:=hrel;by_cases hlt:i<P.length;rotate_left
  ·have hil:¬(i:Int)<(P.length:Int):=by omega
   have xD:Hid (O=vV m maps):=zH (by
    rw[fP.out.done HR.out (by omega)];unfold vV;rw[kG.out,HN.out])
   have Zs:Hid (kQ m=true):=zH (by
    unfold kQ;refine D8.mpr (fun f hf=> ?_);obtain⟨p,hp,hfp⟩:=List.mem_flatten.mp (HR.out.all f (by rw[HN.out]at hf;exact hf));obtain⟨j,hj,rfl⟩:=List.mem_iff_getElem.mp hp;rw[jZ.out j hj (by omega) f hfp];rfl)
   have HX:=zH (zD HX2 HV);go_wp2_with fail
   refine Xk (v:= .tuple #[.slice (some ⟨gB,0,none⟩) n n,.int .i64 0]) (by simp[results,Tryz.results37,go_sem]) rfl ?_;exact⟨some ⟨gB,0,none⟩,n,n,0,rfl,HW.out.trans (HX.out.mono (Xg HZ.out)),fun e=>(by rw[Zs.out]at e;cases e),fun _=>⟨rfl,HN.out.symm,by rw[<-xD.out];exact aS.out.slc fP.out.len (by omega),fun ad e=>by injection e with e;subst e;exact Xe (Xg HZ.out) qls.out⟩⟩
  obtain⟨p,hp⟩:=zj (P[i]);have hpi:P[i]? =some p:=by rw[Xc hlt,hp]
  have Gy:=zH hpi;obtain⟨gP,gi,ci,rfl,hgP,qmf,r0,hgi,q22,hci,q2l,hcells⟩:=oD.out.row i p hpi;have kI:Hid (zw wr wr.heap.size (some ⟨gi,0,none⟩) (qe p)):=zH (qcc q22 hcells);have GI:Hid (w3.heap.size<=gi):=zH hgi;have Br:Hid (p.length<=ci/\ci<=9223372036854775807):=zH ⟨hci,q2l⟩;have hpn:∀g ∈p,g<n:=fun g hg=>HR.out.lt g (eH hlt (by rw[hp];exact hg));have hps:p.Pairwise (· < ·):=by have:=(HR.out.srt _ (Xd hlt)).2;rwa [hp]at this
  have hpl:p.length<=12:=by
   have:p.length<=n:=wF (hps.imp (fun {a b} q=>by omega)) hpn;omega
  have HP:Hid ((∀g ∈p,g<n)/\p.length<=12):=zH ⟨hpn,hpl⟩;have yF:Hid ((∀g ∈p,g<m.methods.length)/\p.length<=12):=zH ⟨fun g hg=>by rw[HN.out];exact hpn g hg,hpl⟩;have xB:=zH hps;obtain⟨np,Vq⟩:∃z,p.length=z:=⟨_,rfl⟩
  have vR:=zH Vq;obtain⟨cyc,OU⟩:∃b,iL EL p=b:=⟨_,rfl⟩
  have Cq:=zH OU;have VQ:Hid (∀f ∈p,jH (vK m) m.methods.length f f=cyc):=zH (fun f hf=>by
   rw[kG.out,HN.out,<-OU,<-hp];exact qk3 HR.out hlt (by rw[hp];exact hf))
  have HSC:Hid (ZX (JY m maps cyc) p=ZX (jT m maps) p):=zH (q5v (fun g hg=>by unfold JY jT;rw[q4e (VQ.out g hg)]));have HX:=zH (zD HX2 HV);have qy:Hid (Below w1.heap.size w1 wr.drew):=zH HX.out.drew;have ui:Hid (Below w2.heap.size w2 wr.drew):=zH HV.out.drew;have qm2:Hid (zd (zM zu 1) 1 wr.drew wr.drew.heap.size (some ⟨gE,0,none⟩) n EL):=zH (jP (zM.keeps zu.keeps 1) HE2.out ui.out);have q2n:Hid (zw wr.drew wr.drew.heap.size (some ⟨gi,0,none⟩) (qe p)):=zH kI.out;rw[Vq]at r0 hpl;clear hp hpi hgP qmf hgi q22 hci q2l hcells hpn hps Vq OU;go_upto_region 6 with fail
  clear r0;go_region_held3 (fun w'=>w'.cell? ⟨w.heap.size,0,none⟩=some (.slice h.A0 m.classes.length h.c0)/\w'.cell? ⟨w.heap.size,1,none⟩=some (.slice h.A1 m.statics.length h.c1)/\w'.cell? ⟨w.heap.size,2,none⟩=some (.slice h.A2 m.ints.length h.c2)/\w'.cell? ⟨w.heap.size,3,none⟩=some (.slice h.A3 m.methods.length h.c3)/\w'.cell? ⟨w.heap.size,4,none⟩=some (.slice h.A4 m.entries.length h.c4)/\w'.cell? ⟨w.heap.size,5,none⟩=some (.int .i64 m.stack)/\w'.cell? ⟨w.heap.size,6,none⟩=some (.int .i64 m.heap)) (first|exact HBX.out.keep qy.out HZ.out|exact HBX.out.keep qc.out HZ.out|exact HBX.out.keep HX6.out HZ.out) (first
   |(go_at_call 62;(with_reducible refine(q6a qm2 r9 fO Yi HP q2n Br vR Cq).mono ?_);rintro e w5 ⟨rfl,hb⟩;have qc:=zH (qy.out.trans (hb.mono qy.out.size));have HV5:=zH (ui.out.trans (hb.mono ui.out.size));have qh:Hid (zw w5 w5.heap.size (some ⟨gi,0,none⟩) (qe p)):=zH ((q2n.out.below hb).more hb.size);have HD5:=zH hb;clear hb)
   |(go_at_call 61;(with_reducible refine(qe7 HI qc HM (zH (jP Vp.keeps Zd.out qc.out)) vl Qc qh yF vR).mono ?_);rintro e w6 ⟨s6,ok6,rfl,hno,Qd,hb⟩;have HX6:=zH (qc.out.trans (hb.mono qc.out.size));have Yl:=zH (HV5.out.trans (hb.mono HV5.out.size));have bG:Hid (zw w6 w6.heap.size (some ⟨gi,0,none⟩) (qe p)):=zH ((qh.out.below hb).more hb.size);have HD6:=zH (HD5.out.trans (hb.mono HD5.out.size));have qz:=zH hno;have vy:=zH Qd;clear hno Qd hb))
  rename_i hHeld;clear hHeld;have hi12:i<12:=by omega
  cases ok6
  ·have Zs:Hid (kQ m=false):=zH (by
    obtain⟨g,hg,h0⟩:=qz.out rfl;unfold kQ;exact Tw (yF.out.1 g hg) (by rw[qet (VQ.out g hg) h0];rfl))
   clear qz vy;go_wp2_with fail
   refine Xk (v:= .tuple #[.slice none 0 0,.int .i64 5]) (by simp[results,Tryz.results37,go_sem]) rfl ?_;exact⟨none,0,0,5,rfl,HW.out.trans (HX6.out.mono (Xg HZ.out)),fun _=>⟨rfl,rfl⟩,fun e=>by rw[Zs.out]at e;cases e⟩
  have ql5:Hid (∀j,(hj:j<P.length)->j<i+1->∀g ∈P[j],aF m g=false):=zH (fun j hj hji g hg=>by
   rcases Xl j i with q|q
   ·exact jZ.out j hj q g hg
   ·obtain rfl:j=i:=by omega
    have e:P[j]=p:=by have:=Gy.out;rw[Xc hj]at this;injection this
    rw[e]at hg;exact q8f HM.out (yF.out.1 g hg) (VQ.out g hg) ((vy.out rfl).1 g hg))
  have yu:Hid (s6=ZX (jT m maps) p):=zH (by rw[(vy.out rfl).2,HSC.out]);have xy:Hid (qk w6 gB O):=zH ((show qk wr.drew gB O from aS.out).keep HD6.out);have qlt:Hid (eY w6 w3.heap.size (some ⟨gP,0,none⟩) cp P):=zH ((oD.out.keep (w':=wr.drew) (zn _) (fun _ _ _=>rfl)).keep HD6.out.size (fun b _ hb=>HD6.out.block b hb));have HE6:Hid (zd (zM zu 1) 1 w6 w6.heap.size (some ⟨gE,0,none⟩) n EL):=zH (jP (zM.keeps zu.keeps 1) HE2.out Yl.out);have Vt:Hid (O.length=n/\∀t,0<=oN O t):=zH ⟨fP.out.len,fP.out.low⟩;obtain⟨r,hr⟩:∃z,(ZN EL p (oN O) p).foldl mx 0=z:=⟨_,rfl⟩
  have HRR:=zH hr;have hrb:=Wz (M:=400000*(i:Int)) (by omega) (SX (EL:=EL) (p:=p) (c:=p) (fun t=>⟨fP.out.low t,fP.out.top t⟩));rw[hr]at hrb;obtain⟨hr0,hr1⟩:=hrb;have hsb:=Iy (C:=jT m maps) (c:=p) (M:=32088) (by omega) (fun g=>⟨p8 HM.out g,wD HM.out vl.out g⟩);rw[<-yu.out]at hsb;obtain⟨hs0,hs1⟩:=hsb;have hs2:s6<=385056:=by
   have:=HP.out.2;omega
  have hr2:r<=4800000:=by omega
  clear qz vy hr hr1 hs1 aS oD;go_upto_region 10 with(go_at_call 63;(with_reducible refine(q9e HE6 r9 fO Yi bG HP xB vR xy Vt HRR).mono ?_);rintro e w7 ⟨rfl,hb⟩;have HV7:=zH (Yl.out.trans (hb.mono Yl.out.size));have nU:=zH (xy.out.keep hb);have q2g:=zH (qlt.out.keep hb.size (fun b _ hb'=>hb.block b hb'));have ol:Hid (zw w7 w7.heap.size (some ⟨gi,0,none⟩) (qe p)):=zH ((bG.out.below hb).more hb.size);clear hb)
  have HST:Hid (dw EL n (jT m maps) P (i+1) (Vz O p (s6+r))):=zH (by
   have e:P[i]=p:=by have:=Gy.out;rw[Xc hlt]at this;injection this
   have:=fP.out.step (v:=s6+r) HR.out Yi.out.1 fO (fun g=>⟨p8 HM.out g,wD HM.out vl.out g⟩) hlt (by rw[e,yu.out,HRR.out])
   rwa [e]at this)
  go_wp2_with fail
  go_loopw [47] (fun j wi=>∃k:Nat,k<=np/\j= .int .i64 k/\Hid (qk wi gB (Vz O (p.take k) (s6+r)))/\Hid (eY wi w3.heap.size (some ⟨gP,0,none⟩) cp P)/\Hid (zw wi wi.heap.size (some ⟨gi,0,none⟩) (qe p))/\Hid (Below w2.heap.size w2 wi)) (fun j _=>np - (intOf j).toNat)
  case atStart=>exact⟨0,Xn _,rfl,nU,q2g,ol,HV7⟩
  case round=>
   clear nU q2g ol HV7;obtain⟨k,hk,rfl,Gx,HPi,xz,HVi⟩:=hrel;by_cases hkn:k<np
   ·have hkp:k<p.length:=by rw[vR.out];exact hkn
    obtain⟨f,hf⟩:=zj (p[k]);have hfn:f<n:=by rw[<-hf];exact HP.out.1 p[k] (Xd hkp)
    obtain⟨ar,e2,har,l0⟩:=xz.out k (.int .i64 (f:Int)) (by unfold qe;rw[XF,Xc hkp,hf];rfl);injection e2 with e2;subst e2;have l0:wr.cell? ⟨gi,k,none⟩=some (.int .i64 (f:Int)):=by rw[show Addr.add ⟨gi,0,none⟩ k=⟨gi,k,none⟩by unfold Addr.add;split<;>simp_all]at l0;exact l0
    have HY:Hid (qk (wr.setCell ⟨gB,f,none⟩ (.int .i64 (s6+r))) gB (Vz O (p.take (k+1)) (s6+r))):=zH (by
     rw[q4v hkp,hf];exact Gx.out.set (s6+r))
    have c0:=Gx.out.at_ (t:=f) (by rw[RI,Vt.out.1];exact hfn);have f0:=zm.free Gx.out f;clear hf har hkp;go_wp2_with fail
    go_roundw;case rel=>exact⟨k+1,by omega,by go_num,HY,zH (qc9 HPi.out q1y.out),zH (qh6 xz.out (by have:=GI.out;have:=q1y.out;omega)),zH (HVi.out.setCell (p:=⟨gB,f,none⟩) qR.out _)⟩
    case measure=>simp[intOf];omega
   ·have hkl:¬(k:Int)<(np:Int):=by omega
    have JD:Hid (qk wr gB (Vz O p (s6+r))):=zH (by have:=Gx.out;rwa [XA (by rw[vR.out];omega)]at this);go_wp2_with fail
    go_roundw;case rel=>exact⟨i+1,_,by omega,by go_num,HST,ql5,JD,HPi,HVi⟩
    case measure=>simp[intOf];omega
theorem Py{P:Prop}(h:P:=by
 have e:jy m maps f=0:=by unfold jy;rw[Xa (by omega)]
 rw[e];clear e;go_enter Tryz.func95,Tryz.ntmps95;go_upto_region 1 with fail
 generalize w.alloc (ze h m)=w1 at*
 obtain⟨q0,q1,q2,q3,q4,q5,q6⟩:=HBX.out;go_wp2_with fail
 go_ret;exact⟨rfl,HW.out⟩):P:=h
set_option maxHeartbeats 3200000 in
theorem q6w(m:za)(maps:List (List zq))(f:Int)(A:Option Addr)(c:Nat)(h:zh)(w:World)(H:zr w w.heap.size h m)(hm:zP m)(hM:zd (zM vd 2) 1 w w.heap.size A c maps)(hz:ZS 4000 maps):
  Calls Tryz.prog 95 #[zv h m,.slice A maps.length c,.int .i64 f] w fun e w'=>e= .returned (.int .i64 (jy m maps f))/\Below w.heap.size w w':=by
 have HW:=zH (vU (w:=w) (h:=h) (m:=m));have HBX:=zH (qd w h m);have HI:=zH (H.now HW.out);have Zd:=zH (jP Vp.keeps hM HW.out);have vl:=zH hz;have HM:=zH hm;have hle:=H.methods.le;have hcap:=H.methods.cap;have hl1:=hM.le;have hl2:=hM.cap;clear H hM hz hm;by_cases h0:0<=f;rotate_left
 ·have hlt:f<0:=by omega
  exact Py
 by_cases h1:f<m.methods.length;rotate_left
 ·have hlt:¬f<0:=by omega
  have hge:f >= (m.methods.length:Int):=by omega
  exact Py
 obtain⟨k,rfl⟩:=Xj h0;have Ym:k<m.methods.length:=by omega
 have i0:¬(k:Int)<0:=by omega
 have i1:¬(k:Int) >= (m.methods.length:Int):=by omega
 obtain⟨ad,hx,eA,hab,hin,hc⟩:=Zx HI.out Ym;obtain⟨S,hS⟩:=zj (maps[k]?.getD []);have hfr:jy m maps (k:Int)=3+m.methods[k].args.length+m.methods[k].locals.length+kT S:=by
  unfold jy zA;rw[Xb ⟨h0,h1⟩,Xo,hS,Xc Ym];rfl
 have hall:=(HM.out.method (Xd Ym)).all;have hd0:kT S<=4000:=by
  rw[<-hS];cases hs:maps[k]? with
  |none=>exact Xn _
  |some S=>exact ER (fun s hs'=>(vl.out S (Xr hs)).2 s hs')
 obtain⟨c0,c1,c2,c3,c4,c5,c6,c7⟩:=hc;have ha1:=hin.args.cap;have ha2:=hin.args.le;have ha3:=hin.locals.cap;have Hr:=hin.locals.le;obtain⟨A0,Ab,A2,A3,A4,k0,k1,k2,k3,k4⟩:=h;dsimp only at eA hle hcap;subst eA;generalize m.methods[k]=x at*
 clear h0 h1 c2 c3 c4 c5 c6 c7 hin;have HF:=zH hfr;have HSS:=zH hS;obtain⟨b,hb⟩:=zj (jy m maps (k:Int));rw[hb]at HF⊢
 clear hfr hS hb;go_enter Tryz.func95,Tryz.ntmps95;go_upto_region 1 with fail
 generalize w.alloc (ze ⟨A0,Ab,A2,some ad,A4,k0,k1,k2,k3,k4⟩ m)=w1 at*
 obtain⟨q0,q1,q2,q3,q4,q5,q6⟩:=HBX.out;go_wp2_with fail
 go_loopw [7,8] (fun d i wr=>∃pc:Nat,pc<=S.length/\i= .int .i64 pc/\d= .int .i64 (kT (S.take pc):Nat)/\wr=w1) (fun _ i _=>S.length - (intOf i).toNat)
 case atStart=>exact⟨0,Xn _,rfl,rfl,rfl⟩
 case round=>
  obtain⟨pc,hpc,rfl,rfl,hwr⟩:=hrel;have hwr:=hwr.symm;subst hwr;by_cases hk:k<maps.length;rotate_left
  ·have hS0:S=[]:=by rw[<-HSS.out,XE (by omega)];rfl
   subst hS0;have hki:¬(k:Int)<(maps.length:Int):=by omega
   have e0:kT (([]:List zq).take pc)=0:=by rw[List.take_nil];rfl
   rw[e0];clear e0;have HF:Hid (b=3+(x.args.length:Int)+(x.locals.length:Int)+0):=zH (by rw[HF.out];rfl);go_wp2_with fail
   go_region
   go_wp2_with fail
   go_ret;exact⟨by rw[HF.out];first|rfl|simp,HW.out.drew⟩
  have hki:(k:Int)<(maps.length:Int):=by omega
  obtain⟨Zt,rfl,oI,A1,cS,r0,jd⟩:=Zd.out.row.at_ hk;have Ic:maps[k]=S:=by rw[<-HSS.out,Xc hk];rfl
  rw[Ic]at r0 jd;rw[Xq]at r0;have hs1:=jd.le;have hs2:=jd.cap;obtain⟨D,hD⟩:=zj (kT (S.take pc));have hDl:D<=4000:=by
   rw[<-hD];refine ER (fun s hs'=>(vl.out maps[k] (Xd hk)).2 s ?_);rw[Ic];exact Wl hs'
  have HD:=zH hD;by_cases hp:pc<S.length
  ·obtain⟨Yh,rfl,xm,s0,At,ct,s1,hst⟩:=jd.row.at_ hp;have HT:Hid (kT (S.take (pc+1))=eU D S[pc]):=zH (by rw[Un hp,hD]);generalize S[pc]=s at*
   have ht1:=hst.le;have ht2:=hst.cap;rw[hD];clear hD hst s0 Ic jd;by_cases hg:D<s.stack.length
   ·have hgi:(s.stack.length:Int)>(D:Int):=by omega
    have HY:Hid (kT (S.take (pc+1))=s.stack.length):=zH (by rw[HT.out];unfold eU;rw[Xb hg]);go_wp2_with fail
    go_roundw;case rel=>exact⟨pc+1,by omega,by go_num,by rw[HY.out],by first|rfl|Xs⟩
    case measure=>simp[intOf];omega
   ·have hgi:¬(s.stack.length:Int)>(D:Int):=by omega
    have HY:Hid (kT (S.take (pc+1))=D):=zH (by rw[HT.out];unfold eU;rw[Xa hg]);go_wp2_with fail
    go_roundw;case rel=>exact⟨pc+1,by omega,by go_num,by rw[HY.out],by first|rfl|Xs⟩
    case measure=>simp[intOf];omega
  ·have hpi:¬(pc:Int)<(S.length:Int):=by omega
   have HF:Hid (b=3+(x.args.length:Int)+(x.locals.length:Int)+(D:Int)):=zH (by rw[HF.out,<-HD.out,XA (by omega)]);rw[hD];clear hD Ic jd;go_wp2_with fail
   go_region
   go_wp2_with fail
   go_ret;exact⟨by rw[HF.out];first|rfl|simp,HW.out.drew⟩
theorem Tp{m:za}{maps:List (List zq)}{f r:Int}{A:Option Addr}{c n:Nat}{h:zh}{w0 w:World}(HI:Hid (zr w0 w0.heap.size h m))(HX:Hid (Below w0.heap.size w0 w))(HM:Hid (zP m))(HS:Hid (zd (zM vd 2) 1 w w.heap.size A c maps))(HZ:Hid (ZS 4000 maps))(HN:Hid (maps.length=n))(HR:Hid (jy m maps f=r)):
  Calls Tryz.prog 95 #[zv h m,.slice A n c,.int .i64 f] w fun e w'=>e= .returned (.int .i64 r)/\Below w.heap.size w w':=by
 obtain rfl:=HN.out;have H:=q6w m maps f A c h w (HI.out.now HX.out) HM.out HS.out HZ.out;rw[HR.out]at H;exact H
theorem JL{c:Prop}[Decidable c]{A B:List (Int×Int)}(hA:c->ku A)(hB:¬c->ku B):ku (if c then A else B):=by
 grind
theorem YO{t:Int×Int}(h:Qq t):ku [t]:=fun u hu=>by rw[XR.mp hu];exact h
theorem Ah{t:Int×Int}{n:Nat}(h:jl t.1 t.2 n=true):Qq t:=fun e=>by
 unfold jl at h
 grind
theorem UY{m:za}{y:zl}(hy:Md m y):ku (vb y):=by
 unfold vb;refine JL (fun _ t ht=>absurd ht (by simp)) (fun h5=>YO ?_);rcases hy.rt with h|h;all_goals grind [Ah]
theorem qde{m:za}{x:zl}{f:Nat}{op a b:Int}(hm:zP m)(hg:m.methods[f]? =some x)(hi:qs op a b=true)(hn:zK m x op a b=true):ku (jg m x op a b):=by
 obtain⟨o0,o1,a0,a1,b0,b1⟩:=YN hi;have hx:=hm.method (Xr hg);have s1:Qq (1,0):=fun e=>rfl;have s2:Qq (2,0):=fun e=>rfl;have s4:Qq (4,0):=fun e=>rfl;have s3:Qq (3,a):=fun e=>by cases e
 unfold jg;refine JL (fun _=>YO s1) (fun _=> ?_);refine JL (fun _=>YO s4) (fun _=> ?_);refine JL (fun h=>YO ?_) (fun _=> ?_)
 ·have hl:=KE (.inl h) hn;unfold vB;rw[Xb a0];have hmem:=ic (l:=x.args++x.locals) a0 (by rw[Xh];omega);rcases Xu.mp hmem with q|q
  ·exact Ah (hx.at_ _ q)
  ·exact Ah (hx.lt _ q)
 refine JL (fun _=>YO s1) (fun _=> ?_);refine JL (fun _=>YO s1) (fun _=> ?_);refine JL (fun h=>YO s3) (fun _=> ?_);refine JL (fun _=>YO s2) (fun _=> ?_);refine JL (fun _=>YO s1) (fun _=> ?_);refine JL (fun _=>YO s1) (fun _=> ?_);refine JL (fun h=>YO (Ah (IM hm (ic b0 (oZ (.inl h) hn).2)))) (fun _=> ?_);refine JL (fun h=>YO (Ah (hm.st _ (ic a0 (uH (.inl h) hn))))) (fun _=> ?_);refine JL (fun h=>YO s3) (fun _=> ?_);refine JL (fun h=> ?_) (fun _=> ?_)
 ·subst h;have h1:=o8 hn;have h2:a.toNat<m.methods.length:=by omega
  refine UY (hm.method ?_);unfold zA
  grind
 refine JL (fun h=> ?_) (fun _=> ?_)
 ·subst h;obtain⟨_,k,y,hk,hy,_⟩:=o7 hm a0 b0 hn;refine UY (hm.method ?_);unfold zA Yz
  grind
 refine JL (fun _=>YO s1) (fun _=> ?_);exact fun t ht=>absurd ht (by simp)
theorem S9{m:za}{f pc:Int}{st:List (Int×Int)}(hm:zP m)(h:ku st)(e:(zI m f pc st).err=0):ku (zI m f pc st).after:=by
 unfold zI at e⊢
 by_cases g:0<=f/\f<m.methods.length/\0<=pc/\pc<(zA m f).code.length
 ·rw[Xb g]at e;rw[Xb g];cases hi:(zA m f).code[pc.toNat]? with
  |none=>grind
  |some i=>
   rw[hi]at e;have hf:f.toNat<m.methods.length:=by omega
   have hg:m.methods[f.toNat]? =some (zA m f):=by unfold zA;grind
   have hx:=hm.method (Xr hg);have him:=Xr hi;have hgv:=qde hm hg (hx.fits.ct _ him) (hx.co _ him);have e:(qT m (zA m f) pc i.1 i.2.1 i.2.2 st).err=0:=e;show ku (qT m (zA m f) pc i.1 i.2.1 i.2.2 st).after;have e4:¬(qS 4).err=0:=by unfold qS;decide
   unfold qT at e⊢
   split at e
   ·omega
   ·rename_i h1;rw[Xa h1];split at e
    ·omega
    ·rename_i h2;rw[Xa h2];split at e
     ·rename_i h3;rw[Xb h3];intro t ht;rcases Xu.mp ht with q|q
      ·exact h t (by grind)
      ·unfold Jv at q;by_cases h6:i.1=6/\st≠ []
       ·rw[Xb h6]at q;have hl:st.getLast?.getD (0,0) ∈st:=by
         grind [List.getLast?qmq,List.getLast_mem]
        have ht:t=st.getLast?.getD (0,0):=by grind
        rw[ht];exact h _ hl
       ·rw[Xa h6]at q;exact hgv t q
     omega
 ·rw[Xa g]at e;exact absurd e (show ¬(1:Int)=0 by decide)
theorem UK{sup:List Int}{s t:Int×Int}(h:zB sup s.1 s.2 t.1 t.2=true)(g:zB sup t.1 t.2 s.1 s.2=true)(hs:Qq s)(ht:Qq t):s=t:=by
 obtain⟨s1,s2⟩:=s;obtain⟨t1,t2⟩:=t;rw[JN]at h g;dsimp only at h g;have a1:s1=4->s2=0:=hs;have a2:t1=4->t2=0:=ht
 grind [qaa]
def kr(sup:List Int)(s t:Int×Int):Int×Int:=qu sup s.1 s.2 t.1 t.2
theorem q81{sup:List Int}{s t:Int×Int}(hs:zB sup s.1 s.2 s.1 s.2=true)(ht:zB sup t.1 t.2 t.1 t.2=true)(h:(kr sup s t).1=0):
  ∀u:Int×Int,zB sup s.1 s.2 u.1 u.2=true->zB sup t.1 t.2 u.1 u.2=true->False:=fun u=>by
 rcases Dl (lU hs) (lU ht)with⟨_,q⟩|⟨q,_⟩
 ·grind
 ·exact absurd h q
theorem J5{sup:List Int}{s t:Int×Int}(hs:zB sup s.1 s.2 s.1 s.2=true)(ht:zB sup t.1 t.2 t.1 t.2=true)(h:¬(kr sup s t).1=0):
  zB sup s.1 s.2 (kr sup s t).1 (kr sup s t).2=true/\zB sup t.1 t.2 (kr sup s t).1 (kr sup s t).2=true/\
  ∀u:Int×Int,zB sup s.1 s.2 u.1 u.2=true->zB sup t.1 t.2 u.1 u.2=true->zB sup (kr sup s t).1 (kr sup s t).2 u.1 u.2=true:=by
 rcases Dl (lU hs) (lU ht)with⟨q,_⟩|⟨_,q1,q2,q3⟩
 ·exact absurd q h
 ·exact⟨q1,q2,fun u=>q3 u.1 u.2⟩
theorem q80{sup:List Int}{s t:Int×Int}(hs:Qq s)(ht:Qq t):Qq (kr sup s t):=R4 hs ht
def YX(sup:List Int)(ss ts:List (Int×Int)):List (Int×Int):=(ss.zip ts).map fun p=>kr sup p.1 p.2
theorem q82{sup:List Int}{ss ts:List (Int×Int)}{k:Nat}(h1:k<ss.length)(h2:k<ts.length):((ss.zip ts).take (k+1)).map (fun p=>kr sup p.1 p.2)=((ss.zip ts).take k).map (fun p=>kr sup p.1 p.2)++[kr sup ss[k] ts[k]]:=by
 have hz:k<(ss.zip ts).length:=by grind
 rw[Xx,Xc hz,Wc,List.getElem_zip];rfl
theorem q9g{sup:List Int}{s:zq}{st:List (Int×Int)}{i:Nat}(h:s.seen=true)(h1:i<s.stack.length)(h2:i<st.length)(hs:zL sup s.stack s.stack)(ht:zL sup st st)(hz:(kr sup s.stack[i] st[i]).1=0):mH sup s st:=
 ⟨h,fun U g1 g2=>q81 (hs.2 i h1 h1) (ht.2 i h2 h2) hz U[i]! (by
  have hU:i<U.length:=by rw[<-g1.1];exact h1
  rw[getElem!_pos U i hU];exact g1.2 i h1 hU) (by
  have hU:i<U.length:=by rw[<-g1.1];exact h1
  rw[getElem!_pos U i hU];exact g2.2 i h2 hU)⟩
theorem qeg{sup:List Int}{s:zq}{st:List (Int×Int)}(h:s.seen=true)(hl:s.stack.length=st.length)(hs:zL sup s.stack s.stack)(ht:zL sup st st)(ns:ku s.stack)(nt:ku st)
  (hz:∀t ∈YX sup s.stack st,¬t.1=0):(∀gr:Bool,(gr=false->YX sup s.stack st=s.stack)->(gr=true->¬YX sup s.stack st=s.stack)->ZT sup s st (YX sup s.stack st) gr)/\ku (YX sup s.stack st):=by
 have hlen:(YX sup s.stack st).length=s.stack.length:=by unfold YX;grind
 have hat:∀(i:Nat) (h1:i<s.stack.length) (h2:i<st.length) (h3:i<(YX sup s.stack st).length),(YX sup s.stack st)[i]=kr sup s.stack[i] st[i]:=fun i h1 h2 h3=>by
  have e:(YX sup s.stack st)[i]? =some (kr sup s.stack[i] st[i]):=by
   unfold YX
   grind
  grind
 have hz':∀(i:Nat) (h1:i<s.stack.length) (h2:i<st.length),¬(kr sup s.stack[i] st[i]).1=0:=(by grind)
 have NB:ku (YX sup s.stack st):=fun t ht'=>by
  obtain⟨i,hi,rfl⟩:=We ht';rw[hat i (by omega) (by omega) hi];exact q80 (ns _ (Xd _)) (nt _ (Xd _))
 have hold:zL sup s.stack (YX sup s.stack st):=⟨hlen.symm,fun i h1 h2=>by
  rw[hat i h1 (by omega) h2];exact(J5 (hs.2 i h1 h1) (ht.2 i (by omega) (by omega)) (hz' i h1 (by omega))).1⟩
 refine⟨fun gr g0 g1=>⟨⟨by omega,fun i h1 h2=> ?_⟩,fun _=>hold,fun U a1 a2=>⟨by rw[hlen];exact(a1 h).1,fun i h1 h2=> ?_⟩,(by grind),fun e _ hf=>g1 e ?_,fun _ _=>NB⟩,NB⟩
 ·have h0:i<s.stack.length:=by omega
  rw[hat i h0 h1 h2];exact(J5 (hs.2 i h0 h0) (ht.2 i h1 h1) (hz' i h0 h1)).2.1
 ·have h0:i<s.stack.length:=by omega
  have h3:i<st.length:=by omega
  rw[hat i h0 h3 h1];exact(J5 (hs.2 i h0 h0) (ht.2 i h3 h3) (hz' i h0 h3)).2.2 _ ((a1 h).2 i h0 h2) (a2.2 i h3 h2)
 ·refine Wh hlen fun i h1 h2=> ?_;exact UK (hf.2 i h1 h2) (hold.2 i h2 h1) (NB _ (Xd _)) (ns _ (Xd _))
def EW(m:za)(f:Int)(L:List (Int×Int))(NL:List Int):Prop:=∀R,vL m f R=true->∀n ∈NL,(zx R n).seen=true/\zL (zy m.classes) L (zx R n).stack
theorem ZF.putR{m:za}{f:Int}{S:List zq}(h:ZF m f S){q:Nat}{L J:List (Int×Int)}{NL:List Int}{gr:Bool}(hq:q<S.length)(hr:EW m f L NL)(hn:(q:Int) ∈NL)
  (hc:ZT (zy m.classes) (zx S q) L J gr) (h8:L.length<=8):ZF m f (S.set q ⟨true,J⟩):=by
 have hset:∀i:Nat,zx (S.set q ⟨true,J⟩) (i:Int)=if i=q then⟨true,J⟩else zx S (i:Int):=fun i=>pQ hq
 have hJ:zL (zy m.classes) J J:=hc.least J hc.old hc.up;refine⟨by rw[XH];exact h.len,?_,fun s hs'=> ?_,fun s hs'=> ?_,fun R hR i hi hsi=> ?_⟩
 ·have h0:=hset 0;by_cases e:0=q
  ·rw[Xb e]at h0;have hz:=hc.old (by rw[<-e];exact h.first.1);rw[<-e]at hz;have hl:=hz.1;have hf:(zx S ((0:Nat):Int)).stack=[]:=h.first.2
   grind
  ·rw[Xa e]at h0;have e2:zx (S.set q ⟨true,J⟩) 0=zx S 0:=h0;rw[e2];exact h.first
 ·rcases X8 hs' with g|g
  ·exact h.self s g
  grind
 ·rcases X8 hs' with g|g
  ·exact h.small s g
  ·rw[g];show J.length<=8;rw[<-hc.up.1];exact h8
 ·rw[XH]at hi;rw[hset]at hsi⊢
  by_cases e:i=q
  ·rw[Xb e];subst e;obtain⟨a1,a2⟩:=hr R hR _ hn;exact⟨a1,hc.least _ (fun g=>(h.low R hR i hi g).2) a2⟩
  ·rw[Xa e]at hsi⊢
   exact h.low R hR i hi hsi
theorem ZF.noneR{m:za}{f:Int}{S:List zq}(h:ZF m f S){q:Nat}{L:List (Int×Int)}{NL:List Int}(hq:q<S.length)(hr:EW m f L NL)(hn:(q:Int) ∈NL)
  (hb:mH (zy m.classes) (zx S q) L):∀R,vL m f R=false:=fun R=>by
 rw[X6];intro hR;exact hb.2 _ (h.low R hR q hq hb.1).2 (hr R hR _ hn).2
structure YA(m:za)(f:Int)(S:List zq):Prop where
 grow:rR m f S
 low:ZF m f S
 nul:∀s ∈S,ku s.stack
 dry:∀s ∈S,s.seen=false->s.stack=[]
 lens:∀k,(∃t ∈S,t.seen=true/\t.stack.length=k+1)->∃t ∈S,t.seen=true/\t.stack.length=k
def AA(m:za)(n:Nat):Nat:=qx (zy m.classes).length (⟨true,[]⟩::List.replicate n (⟨false,[]⟩:zq))
theorem qjn{c:Prop}[Decidable c]{A B:List (Int×Int)}(hA:A.length<=1)(hB:B.length<=1):(if c then A else B).length<=1:=by
 grind
theorem q8i(m:za)(x:zl)(op a b:Int):(jg m x op a b).length<=1:=by
 unfold jg
 repeat' apply qjn
 all_goals grind
theorem qdc(m:za)(x:zl)(op a b:Int)(st:List (Int×Int)):(Jv m x op a b st).length<=(takes m x op a b st).length+1:=by
 unfold Jv takes;by_cases h:op=6/\st≠ []
 ·grind
 ·rw[Xa h,Xa h]
  grind [q8i]
def Qo(S:List zq)(k:Nat):Prop:=∃t ∈S,t.seen=true/\t.stack.length=k
def rY(S:List zq):Prop:=∀k,Qo S (k+1)->Qo S k
theorem rY.down{S:List zq}(h:rY S){k:Nat}(hk:Qo S k):∀j,j<=k->Qo S j:=by
 induction k with
 |zero=>
  grind
 |succ k ih=>
  intro j hj;rcases Nat.eq_or_lt_of_le hj with e|q
  ·grind
  ·exact ih (h k hk) j (by omega)
theorem Qo.set{S:List zq}{q k:Nat}{x:zq}(hq:q<S.length)(hx:x.seen=true)(he:S[q].seen=true->x.stack.length=S[q].stack.length)(h:Qo S k):Qo (S.set q x) k:=by
 obtain⟨t,ht,hs,hl⟩:=h;obtain⟨i,hi,e⟩:=We ht;by_cases h1:i=q
 ·subst h1;exact⟨x,List.mem_iff_getElem.mpr (by grind),hx,by grind⟩
 ·exact⟨t,List.mem_iff_getElem.mpr (by grind),hs,hl⟩
theorem rY.set{S:List zq}{q j:Nat}{x:zq}(h:rY S)(hq:q<S.length)(hx:x.seen=true)(he:S[q].seen=true->x.stack.length=S[q].stack.length)(hn:S[q].seen=false->Qo S j/\x.stack.length<=j+1):rY (S.set q x):=fun k hk=>by
 refine Qo.set hq hx he ?_;obtain⟨t,ht,hs,hl⟩:=hk;rcases X8 ht with g|g
 ·exact h k ⟨t,g,hs,hl⟩
 ·subst g;cases uw:S[q].seen with
  |true=>exact h k ⟨S[q],Xd hq,uw,by rw[<-he uw];exact hl⟩
  |false=>
   obtain⟨h1,h2⟩:=hn uw;exact h.down h1 k (by omega)
theorem Dq{n:Nat}{x:zq}:∀{S:List zq},x ∈S->qx n S=kp n x+qx n (S.erase x)
 | [],h=>by cases h
 |s::S,h=>by
  by_cases e:s=x
  ·subst e;rw[List.erase_cons_head];rfl
  ·rw[List.erase_cons_tail (by simpa using e)];have h':x ∈S:=by
    grind
   have:=Dq (n:=n) h';show kp n s+qx n S=kp n x+(kp n s+qx n (S.erase x))
   omega
theorem Tv{n c:Nat}:∀{S:List zq},(∀s ∈S,c<=kp n s)->S.length*c<=qx n S
 | [],_=>by simp
 |s::S,h=>by
  have h1:=h s (XV ..);have h2:=Tv (n:=n) (c:=c) (S:=S) (by grind);show(S.length+1)*c<=kp n s+qx n S
  grind
theorem Tt{n:Nat}{s:zq}:max n 1*(8 - s.stack.length)<=kp n s:=by
 unfold kp;split
 ·omega
 ·have:max n 1*(8 - s.stack.length)<=max n 1*8:=Nat.mul_le_mul_left _ (by omega);omega
theorem qc0{n k:Nat}:qx n (List.replicate k (⟨false,[]⟩:zq))=k*(8*max n 1+1):=by
 induction k with
 |zero=>simp[qx]
 |succ k ih=>
  have e:kp n ⟨false,[]⟩=8*max n 1+1:=rfl;show kp n ⟨false,[]⟩+qx n (List.replicate k _)=_
  grind
theorem q6p{m:za}{S:List zq}{n:Nat}(hS:S.length=n+1)(hn:n<=63)(hc:m.classes.length<=8)(h:rY S)(hs:∀s ∈S,s.stack.length<=8):AA m n<qx (zy m.classes).length S+4000:=by
 have hr:AA m n=8*max (zy m.classes).length 1+n*(8*max (zy m.classes).length 1+1):=by
  unfold AA;show kp _ ⟨true,[]⟩+qx _ _=_;rw[qc0];unfold kp;rw[Xb rfl];show(0+max _ 1*(8 - 0))+_=_;omega
 rw[kE]at hr⊢
 obtain⟨K,hK⟩:=zj (max m.classes.length 1);have hK8:K<=8:=by omega
 rw[hK]at hr;rw[hr];rcases Xl K 8 with k7|k8
 ·have h1:n*(8*K+1)<=63*(8*7+1):=Nat.mul_le_mul hn (by omega);omega
 have hK':K=8:=by omega
 subst hK';rcases Xl n 61 with n0|n0
 ·omega
 by_cases h8:Qo S 8
 ·obtain⟨t0,m0,s0,l0⟩:=h.down h8 0 (by omega);obtain⟨t1,m1,s1,l1⟩:=h.down h8 1 (by omega);obtain⟨t2,m2,s2,l2⟩:=h.down h8 2 (by omega);have n01:t1≠t0:=(by grind)
  have n02:t2≠t0:=(by grind)
  have n12:t2≠t1:=(by grind)
  have e0:=Dq (n:=m.classes.length) m0;have e1:=Dq (n:=m.classes.length) ((List.mem_erase_of_ne n01).mpr m1);have e2:=Dq (n:=m.classes.length) ((List.mem_erase_of_ne n12).mpr ((List.mem_erase_of_ne n02).mpr m2))
  grind [Tt]
 ·have hlow:∀s ∈S,8<=kp m.classes.length s:=fun s hm=>by
   have h1:=Tt (n:=m.classes.length) (s:=s);cases hse:s.seen with
   |false=>
    unfold kp
    grind
   |true=>
    have h7:s.stack.length≠8:=fun e=>h8 ⟨s,hm,hse,e⟩
    grind
  have:=Tv hlow;omega
theorem qaz{m:za}{f pc:Int}{st:List (Int×Int)}(h:(zI m f pc st).err=0):(zI m f pc st).after.length<=st.length+1:=by
 unfold zI at h⊢
 split
 ·rename_i h1;rw[Xb h1]at h;split
  ·rename_i i hi;rw[hi]at h;dsimp only at h;unfold qT at h⊢
   split
   ·rename_i h2;rw[Xb h2]at h;cases h
   ·rename_i h2;rw[Xa h2]at h;split
    ·rename_i h3;rw[Xb h3]at h;cases h
    ·rename_i h3;rw[Xa h3]at h;split
     ·grind [Xh,XW,qdc]
     ·rename_i h4;rw[Xa h4]at h;cases h
  grind
 ·rename_i h1;rw[Xa h1]at h;cases h
theorem Qo.put{S:List zq}{q k:Nat}{sup:List Int}{L J:List (Int×Int)}{gr:Bool}(h:Qo S k)(hq:q<S.length)(hc:ZT sup (zx S (q:Int)) L J gr):Qo (S.set q ⟨true,J⟩) k:=by
 have e:zx S (q:Int)=S[q]:=bS hq;rw[e]at hc;exact Qo.set hq rfl (fun hs=>(hc.old hs).1.symm) h
theorem YA.start{m:za}{f:Int}{n:Nat}(h:rR m f (⟨true,[]⟩::List.replicate n (⟨false,[]⟩:zq)))(hn:(zA m f).code.length=n+1):YA m f (⟨true,[]⟩::List.replicate n (⟨false,[]⟩:zq)):=
 ⟨h,TR hn,fun s hs=>by
  rcases XZ.mp hs with rfl|hs
  ·exact fun t ht=>absurd ht (by simp)
  ·rw[(List.mem_replicate.mp hs).2];exact fun t ht=>absurd ht (by simp),(by grind),(by grind)⟩
theorem YA.put{m:za}{f:Int}{S:List zq}(h:YA m f S){p q:Nat}{L J:List (Int×Int)}{NL:List Int}{gr:Bool}(hq:q<S.length)(hp:p<S.length)(hs:(zx S p).seen=true)(hn:(q:Int) ∈rD m f p)(hr:EW m f L NL)(hm:(q:Int) ∈NL)
  (hc:ZT (zy m.classes) (zx S q) L J gr) (h8:L.length<=8) (hz:ku J) {j:Nat} (hj:Qo S j) (hlj:L.length<=j+1):YA m f (S.set q ⟨true,J⟩):=
 ⟨h.grow.put hq hp hs hn (by rw[<-hc.up.1];exact h8),h.low.putR hq hr hm hc h8,fun s hs'=>by
  rcases X8 hs' with g|g
  ·exact h.nul s g
  grind,(fun s hs' hse=>by
   rcases X8 hs' with g|g
   ·exact h.dry s g hse
   grind),by
  have e:zx S (q:Int)=S[q]:=bS hq;rw[e]at hc;exact rY.set (S:=S) h.lens hq rfl (fun hs=>(hc.old hs).1.symm) (fun _=>⟨hj,by show J.length<=j+1;rw[<-hc.up.1];exact hlj⟩)⟩
theorem YA.step{m:za}{f:Int}{S:List zq}(hm:zP m)(h:YA m f S){pc:Nat}{L:List (Int×Int)}{NL:List Int}(hp:pc<S.length)(hs:(zx S pc).seen=true)(e:zI m f pc (zx S pc).stack=⟨L,NL,0⟩):EW m f L NL/\zL (zy m.classes) L L/\ku L:=by
 have hself:zL (zy m.classes) (zx S pc).stack (zx S pc).stack:=h.low.self _ (eF hp);have h1:=Iz (f:=f) (pc:=(pc:Int)) hm hself (by rw[e]);have h2:=S9 (f:=f) (pc:=(pc:Int)) hm (h.nul _ (eF hp)) (by rw[e]);rw[e]at h1 h2;exact⟨fun R hR n hn=>by
  have:=(h.low.right hm hR hp hs).2 n (by grind)
  grind,h1.2.2,h2⟩
theorem q46{sup:List Int}{a b:List (Int×Int)}(h:zL sup a b)(g:zL sup b a)(ha:ku a)(hb:ku b):a=b:=by
 refine Wh h.1 fun i h1 h2=> ?_;exact UK (h.2 i h1 h2) (g.2 i h2 h1) (ha _ (Xd _)) (hb _ (Xd _))
theorem Yx.uniq{m:za}{f:Int}{S R:List zq}(h:Yx m f S)(g:Yx m f R):S=R:=by
 obtain⟨e1,h1⟩:=KD.mp (h.least R g.right);obtain⟨e2,h2⟩:=KD.mp (g.least S h.right);refine Wh e1 fun i i1 i2=> ?_;have q1:=h1 i i1;have q2:=h2 i i2;rw[bS i1,bS i2]at q1 q2;have f1:=h.flat _ (Xd i1);have f2:=g.flat _ (Xd i2);generalize S[i]=s at*
 generalize R[i]=r at*
 obtain⟨sb,st⟩:=s;obtain⟨rb,rt⟩:=r;dsimp only at q1 q2 f1 f2;cases sb;all_goals grind [q46]
abbrev withSH(m:za)(s h:Int):za:=⟨m.classes,m.statics,m.ints,m.methods,m.entries,s,h⟩
section
variable{m:za}{s h:Int}
theorem qhm{f:Int}{S:List zq}(H:fD m f S):fD (withSH m s h) f S:=⟨⟨H.grow.len,H.grow.first,H.grow.small⟩,H.done⟩
end
def EO(L:List (Int×Int))(w:World)(e:Ending)(w':World):Prop:=∃A' c',e= .returned (.slice A' L.length c')/\zd zf 2 w' w'.heap.size A' c' L/\(L≠ []->∃gi rest,A'=some ⟨gi,0,none⟩/\w.heap.size<=gi/\zm w' gi (zN L++rest) 45)/\Below w.heap.size w w'
theorem AR{α:Type}{At:qV α}(hK:ZC At){k:Nat}{w w':World}{A:Option Addr}{c:Nat}{l:List α}(h:zd At k w w.heap.size A c l)(hb:Below w.heap.size w w'):zd At k w' w'.heap.size A c l:=
 (h.below_to hK hb (zn _)).keep' hK hb.size (fun _ _=>rfl)
theorem qcz{sup:List Int}{L:List (Int×Int)}{k:Nat}{s1 s2 t1 t2:Int}(h:zB sup t1 t2 s1 s2=true)(hf:zL sup L L)(hk:k<L.length)(e:L[k]=(s1,s2)):¬(vc sup (s1,s2) (t1,t2)).1=0:=by
 unfold vc;rw[Xb h]
 grind [uQ]
theorem qel{L:List (Int×Int)}{w w':World}{v:Value}(h:w'.ownsRow w.heap.size 45 2 v L.length (zN L))(hb:Below w.heap.size w w'):EO L w (.returned v) w':=by
 obtain⟨A,c,rfl,hs,_⟩:=Yq h;refine⟨A,c,rfl,hs,fun hn=> ?_,hb⟩;obtain⟨g,c',rest,e,h1,h2⟩:=TC h (by grind)
 grind
theorem q5t(L:List (Int×Int))(A:Option Addr)(c:Nat)(w:World)(h:zd zf 2 w w.heap.size A c L)(hl:L.length<=1000):
  Calls Tryz.prog 147 #[.slice A L.length c] w (EO L w):=by
 cases A with
 |none=>
  have hL:L=[]:=by
   cases L with
   |nil=>rfl
   |cons a L=>obtain⟨ad,e,_⟩:=h.row 0 a rfl;cases e
  subst hL;have hq:=fun w=>Lib.run_eql_slice_nil (P:=Tryz.prog) w 24 45 none 0 c 0 0 Tryz.underlying24;show Calls Tryz.prog 147 #[.slice none 0 c] w (EO [] w);go_enter Tryz.func147,Tryz.ntmps147;go_wp2
  go_ret;exact⟨none,0,rfl,va,fun q=>absurd rfl q,zb _ _⟩
 |some ad=>
  have hq:=fun w=>Lib.run_eql_slice_nil (P:=Tryz.prog) w 24 45 (some ad) L.length c 0 0 Tryz.underlying24;obtain⟨ti,hti,ht0,ht1,ht2⟩:=jJ bM;have bn:Hid (Below w.heap.size w (w.alloc (.cells #[] 45))):=zH (zk);have HT:=zH (YQ (h.below_to zf.keeps bn.out (zn _)).row);clear h;go_enter Tryz.func147,Tryz.ntmps147;go_wp2_with(at_builtin;refine Zv rfl _ _ 24 rfl w.heap.size 45 ti (.agg #[.int .i64 0,.int .i64 0]) 2 16 Tryz.underlying24 hti ht0 ht1 ht2 rfl (by decide) _ 0 [] rfl (bJ w 45 2) (some ad) L.length c _ (zN L) (Yt _) rfl HT.out (QM _) (by unfold maxLen;omega) (by omega) (by simp) ?_;intro v6 w6 hown hgrow;have HX6:=zH (jx bn.out (bJ w 45 2) (by simp) hgrow);have HO6:Hid (w6.ownsRow w.heap.size 45 2 v6 L.length (zN L)):=(by grind [zH]);clear hown hgrow)
  go_ret;exact qel HO6.out HX6.out
theorem qar{L:List (Int×Int)}{A:Option Addr}{c:Nat}{w0 w:World}(HS:Hid (zd zf 2 w0 w0.heap.size A c L))(HX:Hid (Below w0.heap.size w0 w))(hl:L.length<=1000):Calls Tryz.prog 147 #[.slice A L.length c] w (EO L w):=
 q5t L A c w ((HS.out.below_to zf.keeps HX.out (zn _)).keep' zf.keeps HX.out.size (fun _ _=>rfl)) hl
theorem qj0{sup:List Int}{A0:Option Addr}{c0 B:Nat}{x y t0 t1:Int}{w0 w:World}{r:Bool}(HS:Hid (jh w0 B A0 sup))(HX:Hid (Below B w0 w))(HB:Hid (B<=w0.heap.size))(HL:Hid (sup.length<=1000))(HR:Hid (zB sup x y t0 t1=r)):
  Calls Tryz.prog 148 #[.slice A0 sup.length c0,.agg #[.int .i64 x,.int .i64 y],.agg #[.int .i64 t0,.int .i64 t1]] w fun e w'=>e= .returned (.bool r)/\Below w.heap.size w w':=by
 have H:=eG sup x y t0 t1 A0 c0 B w (by have:=HL.out;omega) (Xe HB.out HX.out.size) (HS.out.below_to HX.out (zn _));rw[HR.out]at H;exact H
theorem qfj{sup:List Int}{A0:Option Addr}{c0 B:Nat}{x y t0 t1:Int}{w0 w:World}{r:Int×Int}(HS:Hid (jh w0 B A0 sup))(HX:Hid (Below B w0 w))(HB:Hid (B<=w0.heap.size))(HL:Hid (sup.length<=1000))(HR:Hid (qu sup x y t0 t1=r)):
  Calls Tryz.prog 149 #[.slice A0 sup.length c0,.agg #[.int .i64 x,.int .i64 y],.agg #[.int .i64 t0,.int .i64 t1]] w fun e w'=>e= .returned (.agg #[.int .i64 r.1,.int .i64 r.2])/\Below w.heap.size w w':=by
 have H:=qcy sup x y t0 t1 A0 c0 B w (by have:=HL.out;omega) (Xe HB.out HX.out.size) (HS.out.below_to HX.out (zn _));rw[HR.out]at H;exact H
def ZQ(g:Nat)(y:zg)(w w':World):Prop:=∀b,b<w.heap.size->b≠g->(y.seen=true->y.stack≠ []->∀ad,y.A=some ad->ad.block≠b)->w'.heap[b]? =w.heap[b]?
theorem ZQ.refl(g:Nat)(y:zg)(w:World):ZQ g y w w:=fun _ _ _ _=>rfl
theorem ZQ.more{g:Nat}{y:zg}{w w1 w2:World}(h:ZQ g y w w1)(hz:w.heap.size<=w1.heap.size)(hb:Below w1.heap.size w1 w2):ZQ g y w w2:=fun b h1 h2 h3=>(hb.block b (by omega)).trans (h b h1 h2 h3)
theorem ZQ.put{g i:Nat}{y x:zg}{w w1:World}(h:ZQ g y w w1):ZQ g y w (vh w1 g i x):=fun b h1 h2 h3=>by
 unfold vh;rw[XJ _ _ _ b (by exact h2),XJ _ _ _ b (by exact h2)];exact h b h1 h2 h3
theorem ZQ.turn{g gi k:Nat}{y:zg}{t:Int×Int}{w w1:World}(h:ZQ g y w w1)(hs:y.seen=true)(hn:y.stack≠ [])(e:y.A=some ⟨gi,0,none⟩):ZQ g y w (rJ w1 gi k t):=fun b h1 h2 h3=>by
 rw[IV _ _ _ _ _ (fun q=>h3 hs hn _ e q.symm)];exact h b h1 h2 h3
def LK(sup:List Int)(B g tg:Nat)(X:List zg)(y:zg)(st:List (Int×Int))(w:World)(e:Ending)(w':World):Prop:=∃grown ok,e= .returned (.tuple #[.bool grown,.bool ok])/\Below B w w'/\ZQ g y w w'/\
 (ok=false->mH sup y.shp st)/\(ok=true->∃x':zg,x'.seen=true/\kW w' B g (X.set tg x')/\ZT sup y.shp st x'.stack grown/\(y.seen=true->x'.A=y.A)/\(y.seen=false->x'.stack≠ []->∀ad,x'.A=some ad->w.heap.size<=ad.block))
theorem Q7{sup:List Int}{B g tg:Nat}{X:List zg}{y:zg}{st:List (Int×Int)}{w w':World}(hb:Below B w w')(hs:ZQ g y w w')(h:mH sup y.shp st):LK sup B g tg X y st w (.returned (.tuple #[.bool false,.bool false])) w':=
 ⟨false,false,rfl,hb,hs,fun _=>h,(fun e=>by cases e)⟩
set_option maxHeartbeats 12800000 in
theorem qaq(sup:List Int)(A0:Option Addr)(c0 B g tg:Nat)(X:List zg)(y:zg)(st:List (Int×Int))(A:Option Addr)(c:Nat)(w:World)(hsl:sup.length<=1000)(hS:jh w B A0 sup)(hB:B<=w.heap.size)(hO:kW w B g X)(hto:tg<X.length)(hy:X[tg]=y)(lN:X.length<=1000)(hst:zd zf 2 w w.heap.size A c st)(q1d:st.length<=1000)
  (hap:∀ad ax,A=some ad->y.A=some ax->y.seen=true->y.stack≠ []->st≠ []->ad.block≠ax.block) (hfs:zL sup y.stack y.stack) (hft:zL sup st st):
  Calls Tryz.prog 106 #[.slice A0 sup.length c0,.slice (some ⟨g,0,none⟩) X.length X.length,.int .i64 tg,.slice A st.length c] w (LK sup B g tg X y st w):=by
 have c0':=hO.out.seen_at hto;have c1:=hO.out.stack_at hto;rw[hy]at c0' c1;have HS:=zH hS;have HB:=zH hB;have HL:=zH hsl;have HO:=zH hO;have HY:=zH hy;have HST:=zH hst;have HF:=zH (And.intro hfs hft);have aQ:=zH hap;have hle:=hst.le;have Ml:=hO.out.row y (by grind);have qm8:=Ml.le;have hycap:=Ml.cap;have htd0:decide ((tg:Int)<0)=false:=(by grind)
 have htd1:decide (X.length<=tg)=false:=(by grind)
 clear hS hO hst hap hfs hft hy Ml hB;by_cases Gq:y.seen=true;rotate_left
 ·have q1h:y.seen=false:=by grind
  have QB:=zH q1h;rw[q1h]at c0';clear Gq;have Cm:=HO.out.out.blk.free (tg*2);have BV:=HO.out.out.blk.free (tg*2+1);have HX0:=qP w;go_enter Tryz.func106,Tryz.ntmps106;go_wp2_with(go_at_call 147;(with_reducible refine(qar HST HX0 q1d).mono ?_);rintro e w1 ⟨A',c',rfl,hs',hn',hb'⟩;have HC:=zH hs';have HN:=zH hn';have Zq:=zH hb';have ZH:=zH (HO.out.keep hb');clear hs' hn' hb' Cm BV;have Cm:=ZH.out.out.blk.free (tg*2);have BV:=ZH.out.out.blk.free (tg*2+1);have d0:=ZH.out.out.seen_at hto;have d1:=ZH.out.out.stack_at hto;rw[HY.out]at d0 d1)
  go_ret2
  refine⟨true,true,rfl,((Zq.out.mono HB.out).setCell (p:=⟨g,tg*2,none⟩) HO.out.base _).setCell (p:=⟨g,tg*2+1,none⟩) HO.out.base _,?_,(fun e=>by cases e),fun _=>⟨⟨true,A',c',st⟩,rfl,?_,Sr QB.out HF.out.2,fun e=> ?_,fun _ hne ad ea=> ?_⟩⟩
  ·exact((ZQ.refl g y w).more (zn _) Zq.out).put (i:=tg) (x:=⟨true,A',c',st⟩)
  ·exact kW.put (x:=⟨true,A',c',st⟩) HO.out Zq.out HB.out hto HC.out HN.out
  ·rw[QB.out]at e;cases e
  ·obtain⟨gi,rest,e1,h1,_⟩:=HN.out hne;have ea:A'=some ad:=ea;rw[e1]at ea;injection ea with ea;subst ea;exact h1
 have QB:=zH Gq;rw[Gq]at c0';clear Gq;by_cases hlen:st.length=y.stack.length;rotate_left
 ·have hne:((st.length:Int) !=(y.stack.length:Int))=true:=XP.mpr (by omega);have Vo:=zH hlen;clear hlen;go_enter Tryz.func106,Tryz.ntmps106;go_wp2_with fail
  go_ret2
  exact Q7 (zb _ _) (ZQ.refl _ _ _) (Uo QB.out Vo.out)
 have Zj:=zH hlen;obtain⟨n,hn⟩:=zj (st.length);have hyn:y.stack.length=n:=by omega
 have uu:=zH hn;have qo:=zH hyn;have Om:n<=1000:=by omega
 have hln:¬(n:Int)≠(n:Int):=fun q=>q rfl;have hnn:((n:Int) !=(n:Int))=false:=bne_self_eq_false _;rw[hyn]at c1 qm8;rw[hn]at hle;clear hyn hlen q1d;rw[uu.out];go_enter Tryz.func106,Tryz.ntmps106;go_wp2_with fail
 clear c0' c1 hnn;go_loopw [8,44] (fun s8 i wr=>∃(k:Nat) (gr:Bool),k<=n/\i= .int .i64 k/\s8= .bool gr/\Hid (kW wr B g (X.set tg ⟨true,y.A,y.c,jr sup y.stack st k⟩))/\Hid (Below B w wr)/\Hid (ZQ g y w wr)/\Hid (zd zf 2 wr wr.heap.size A c st)/\
  Hid (∀(i:Nat) (h1:i<y.stack.length) (h2:i<st.length),i<k->¬(vc sup y.stack[i] st[i]).1=0)/\Hid (gr=false->∀(i:Nat) (h1:i<y.stack.length) (h2:i<st.length),i<k->zB sup st[i].1 st[i].2 y.stack[i].1 y.stack[i].2=true)/\Hid (gr=true->∃(i:Nat) (h1:i<y.stack.length) (h2:i<st.length),¬zB sup st[i].1 st[i].2 y.stack[i].1 y.stack[i].2=true)) (fun _ i _=>n - (intOf i).toNat)
 case atStart=>exact⟨0,false,Xn _,rfl,rfl,zH (by
  have e:(⟨true,y.A,y.c,jr sup y.stack st 0⟩:zg)=X[tg]:=by
   rw[Kc,HY.out];have:=QB.out;cases y;simp at this;subst this;rfl
  rw[e,List.set_getElem_self];exact HO.out),zH (zb _ _),zH (ZQ.refl _ _ _),HST,zH (fun i _ _ h=>by omega),zH (fun _ i _ _ h=>by omega),zH (fun e=>by cases e)⟩
 case round=>
  clear HST;obtain⟨k,gr,hk,rfl,rfl,uj,HX,QV,HST,fH,qX,Gm⟩:=hrel;by_cases hkn:k<n;rotate_left
  ·have wY:Hid (k=n):=zH (by omega);have hki:¬(k:Int)<(n:Int):=by omega
   go_wp2_with fail
   go_ret2
   refine⟨gr,true,rfl,HX.out,QV.out,(fun e=>by cases e),fun _=>⟨_,rfl,uj.out,?_,fun _=>rfl,fun e=> ?_⟩⟩
   ·have hkk:k=st.length:=by have:=wY.out;have:=uu.out;omega
    have:=qi1 (sup:=sup) (s:=y.shp) (st:=st) (grown:=gr) QB.out Zj.out HF.out.1 HF.out.2 (fun i h1 h2=>fH.out i h1 h2 (by omega)) (fun e i h1 h2=>qX.out e i h1 h2 (by omega)) Gm.out;rw[hkk];exact this
   ·rw[QB.out]at e;cases e
  have hk1:k<y.stack.length:=by have:=qo.out;omega
  have hk2:k<st.length:=by have:=uu.out;omega
  have jv:tg<(X.set tg ⟨true,y.A,y.c,jr sup y.stack st k⟩:List zg).length:=by rw[XH];exact hto
  have hyk:(X.set tg ⟨true,y.A,y.c,jr sup y.stack st k⟩:List zg)[tg]=⟨true,y.A,y.c,jr sup y.stack st k⟩:=by rw[List.getElem_set,Xb rfl]
  obtain⟨gi,rest,BK,q2w,hWh⟩:=uj.out.own tg jv (by rw[hyk];intro q;have:=eD sup y.stack st k;dsimp only at q;rw[q]at this;simp at this;omega);rw[hyk]at BK hWh;dsimp only at BK hWh;have c1:=uj.out.out.stack_at jv;rw[hyk]at c1;dsimp only at c1;rw[eD,qo.out,BK]at c1;have hke:k<(jr sup y.stack st k).length:=by rw[eD];exact hk1
  obtain⟨e0,e1⟩:=st_at hWh hke;have hck:(jr sup y.stack st k)[k]=y.stack[k]:=by
   have:=WM sup hk1 hk2;rw[Xc hke]at this;exact Option.some.inj this
  rw[hck]at e0 e1;obtain⟨ad,rfl,hab,v0,v1⟩:=HST.out.row.at_ hk2;obtain⟨⟨t1,t2⟩,ht⟩:∃t,st[k]=t:=⟨_,rfl⟩
  obtain⟨⟨s1,s2⟩,hs⟩:∃t,y.stack[k]=t:=⟨_,rfl⟩
  rw[ht]at v0 v1;rw[hs]at e0 e1;dsimp only at v0 v1 e0 e1;have Gd:=zH BK;have NR:=zH hWh;have HTK:=zH ht;have lg:=zH hs;have HBG:=zH q2w;obtain⟨r,hr⟩:=zj (zB sup t1 t2 s1 s2);have HR:=zH hr;have HKI:=zH (show wr.heap.size<(wr.alloc (.cells #[.int .i64 t1,.int .i64 t2] 45)).heap.size by simp);have G5:Hid (Below wr.heap.size wr (wr.alloc (.cells #[.int .i64 t1,.int .i64 t2] 45))):=zH (zk);have HBX:=zH (zm.new wr [.int .i64 t1,.int .i64 t2] 45);have qkw:=uj.out.out.blk.lt;have q2t:=hWh.lt;clear BK hWh ht hs q2w hck hyk hr;go_upto_region 12 with fail
  change Code.wp _ _ _ _ (wr.alloc (.cells #[.int .i64 t1,.int .i64 t2] 45));have kB:Hid (∀W,Below (wr.alloc (.cells #[.int .i64 t1,.int .i64 t2] 45)).heap.size (wr.alloc (.cells #[.int .i64 t1,.int .i64 t2] 45)) W->W.cell? ⟨g,tg*2+1,none⟩=some (.slice (some ⟨gi,0,none⟩) n y.c)/\W.cell? ⟨wr.heap.size,0,none⟩=some (.int .i64 t1)/\W.cell? ⟨wr.heap.size,1,none⟩=some (.int .i64 t2)/\W.cell? ⟨gi,k*2,none⟩=some (.int .i64 s1)/\W.cell? ⟨gi,k*2+1,none⟩=some (.int .i64 s2)):=zH (fun W hW=>by
   have hb2:=G5.out.trans (hW.mono G5.out.size);have hn0:=(HBX.out.keep hW HKI.out).cells 0 _ rfl;have hn1:=(HBX.out.keep hW HKI.out).cells 1 _ rfl;exact⟨(hb2.cell (p:=⟨g,tg*2+1,none⟩) qkw).trans c1,hn0,hn1,(hb2.cell (p:=⟨gi,k*2,none⟩) q2t).trans e0,(hb2.cell (p:=⟨gi,k*2+1,none⟩) q2t).trans e1⟩)
  have Zq:Hid (Below B w (wr.alloc (.cells #[.int .i64 t1,.int .i64 t2] 45))):=zH (HX.out.trans (G5.out.mono (by have:=HX.out.size;have:=HB.out;omega)));clear c1 e0 e1 v0 v1;generalize wr.alloc (.cells #[.int .i64 t1,.int .i64 t2] 45)=w1 at*
  have qkr:Hid (Below B w w1.drew):=zH Zq.out.drew;have q1g:Hid (Below w1.heap.size w1 w1.drew):=zH (zb _ _).drew;go_region_held3 (fun w'=>w'.cell? ⟨g,tg*2+1,none⟩=some (.slice (some ⟨gi,0,none⟩) n y.c)/\w'.cell? ⟨wr.heap.size,0,none⟩=some (.int .i64 t1)/\w'.cell? ⟨wr.heap.size,1,none⟩=some (.int .i64 t2)/\w'.cell? ⟨gi,k*2,none⟩=some (.int .i64 s1)/\w'.cell? ⟨gi,k*2+1,none⟩=some (.int .i64 s2)) (first|exact kB.out _ q1g.out|exact kB.out _ nI.out) (first|(go_at_call 148;(with_reducible refine(qj0 HS qkr HB HL HR).mono ?_);rintro e w2 ⟨rfl,hb⟩;have nI:=zi q1g hb;clear hb))
  rename_i hHeld;clear hHeld;have HX2:Hid (Below B w w2):=zH (Zq.out.trans (nI.out.mono (by have:=Zq.out.size;have:=HB.out;omega)));have xW:Hid (Below wr.heap.size wr w2):=zH (zD G5 nI);cases r;rotate_left
  ·have qmg:Hid (jr sup y.stack st (k+1)=jr sup y.stack st k):=zH (q9h sup Zj.out.symm hk1 hk2 (by rw[HTK.out,lg.out];exact HR.out));go_wp2_with fail
   go_roundw;case rel=>exact⟨k+1,gr,by omega,by go_num,rfl,zH (by rw[qmg.out];exact uj.out.keep xW.out),HX2,zH (QV.out.more HX.out.size xW.out),zH (AR zf.keeps HST.out xW.out),zH (fun i h1 h2 h=>by
     rcases Xl i k with q|q
     ·exact fH.out i h1 h2 q
     ·obtain rfl:i=k:=by omega
      rw[HTK.out,lg.out];exact qcz HR.out HF.out.1 h1 lg.out),zH (fun e i h1 h2 h=>by
     rcases Xl i k with q|q
     ·exact qX.out e i h1 h2 q
     ·obtain rfl:i=k:=by omega
      rw[HTK.out,lg.out];exact HR.out),Gm⟩
   case measure=>simp[intOf];omega
  have HD2:=zH (kB.out _ nI.out);have fF:Hid (∀W,Below w2.heap.size w2 W->(fun w'=>w'.cell? ⟨g,tg*2+1,none⟩=some (.slice (some ⟨gi,0,none⟩) n y.c)/\w'.cell? ⟨wr.heap.size,0,none⟩=some (.int .i64 t1)/\w'.cell? ⟨wr.heap.size,1,none⟩=some (.int .i64 t2)) W):=zH (fun W hW=>by
   obtain⟨d0,d1,d2,d3,d4⟩:=kB.out _ (nI.out.trans (hW.mono nI.out.size));exact⟨d0,d1,d2⟩)
  have VZ:Hid (∀W,Below w2.heap.size w2 W->W.cell? ⟨gi,k*2,none⟩=some (.int .i64 s1)/\W.cell? ⟨gi,k*2+1,none⟩=some (.int .i64 s2)/\W.frozen? ⟨gi,k*2,none⟩=false/\W.frozen? ⟨gi,k*2+1,none⟩=false):=zH (fun W hW=>by
   obtain⟨d0,d1,d2,d3,d4⟩:=kB.out _ (nI.out.trans (hW.mono nI.out.size));have lD:=NR.out.keep (xW.out.trans (hW.mono xW.out.size)) NR.out.lt;exact⟨d3,d4,lD.free _,lD.free _⟩)
  have q2r:g≠gi:=fun e=>by
   have h1:=uj.out.out.blk;have h2:=NR.out;rw[<-e]at h2;exact IY h1 h2
  have q2v:wr.heap.size≠gi:=by omega
  have Ob:=zH (And.intro q2r q2v);have GX:Hid (∀(W:World) (j:Int×Int),Below w2.heap.size w2 W->(fun w'=>w'.cell? ⟨g,tg*2+1,none⟩=some (.slice (some ⟨gi,0,none⟩) n y.c)/\w'.cell? ⟨wr.heap.size,0,none⟩=some (.int .i64 t1)/\w'.cell? ⟨wr.heap.size,1,none⟩=some (.int .i64 t2)) ((W.setCell ⟨gi,k*2,none⟩ (.int .i64 j.1)).setCell ⟨gi,k*2+1,none⟩ (.int .i64 j.2))):=zH (fun W j hW=>by
   obtain⟨d0,d1,d2⟩:=fF.out W hW;exact⟨(yY W gi k j ⟨g,tg*2+1,none⟩ Ob.out.1).trans d0,(yY W gi k j ⟨wr.heap.size,0,none⟩ Ob.out.2).trans d1,(yY W gi k j ⟨wr.heap.size,1,none⟩ Ob.out.2).trans d2⟩)
  obtain⟨⟨j1,j2⟩,hj⟩:∃j,qu sup s1 s2 t1 t2=j:=⟨_,rfl⟩
  have HJ:=zH hj;clear hj q2r q2v;obtain⟨d0,d1,d2,d3,d4⟩:=HD2.out;have qly:Hid (Below B w w2.drew):=zH HX2.out.drew;have q20:Hid (Below w2.heap.size w2 w2.drew):=zH (zb _ _).drew;go_wp2_with fail
  refine wp_region_noPanic ?_;refine wp_region_held_drew (S:=(fun w'=>w'.cell? ⟨g,tg*2+1,none⟩=some (.slice (some ⟨gi,0,none⟩) n y.c)/\w'.cell? ⟨wr.heap.size,0,none⟩=some (.int .i64 t1)/\w'.cell? ⟨wr.heap.size,1,none⟩=some (.int .i64 t2))) (by kernel_rfl) (fF.out _ q20.out) (fun hHeld=> ?_);refine mT 0 (h:=mT 1 (h:=mT 2 (h:=mT 3 (h:=mT 4 (h:=mT 5 (h:=mT 6 (h:=mT 7 (h:= ?_))))))));refine mT 8 (h:=mT 9 (h:=mT 10 (h:=mT 11 (h:=mT 13 (h:= ?_)))));refine mR 12 (h:=fun K hK=> ?_);go_simp;refine mK hK hHeld (h:=fun hHeld=> ?_);clear hK K;refine mR 14 (h:=fun K hK=> ?_);go_simp;(go_at_call 149;(with_reducible refine(qfj HS qly HB HL HJ).mono ?_);rintro e w3 ⟨rfl,hb⟩;have oH:=zi q20 hb;clear hb;obtain⟨z0,z1,z2,z3⟩:=VZ.out _ oH.out)
  refine hK.out _ _ (fF.out _ oH.out) (fun hHeld=> ?_);clear hK K;try simp only[sF]
  refine mT 15 (h:= ?_);refine mR 16 (h:=fun K hK=> ?_);go_simp;refine mK hK (GX.out _ (j1,j2) oH.out) (h:=fun hHeld=> ?_);clear hK K;refine wpAnyH_done (by kernel_rfl) ?_ _;refine NoPanic.normal ?_;clear hHeld;have xn:Hid (vc sup (s1,s2) (t1,t2)=(j1,j2)):=zH (by
   unfold vc;rw[Xa (show ¬zB sup (t1,t2).1 (t1,t2).2 (s1,s2).1 (s1,s2).2=true by rw[show zB sup (t1,t2).1 (t1,t2).2 (s1,s2).1 (s1,s2).2=false from HR.out];decide)];exact HJ.out)
  have jc:Hid (y.stack≠ []):=zH (fun q=>by rw[q]at hk1;simp at hk1);have Hg:=zH (zD xW oH);have HO4:Hid (kW ((w3.setCell ⟨gi,k*2,none⟩ (.int .i64 j1)).setCell ⟨gi,k*2+1,none⟩ (.int .i64 j2)) B g (X.set tg ⟨true,y.A,y.c,jr sup y.stack st (k+1)⟩)):=zH (by
   have h3:=uj.out.keep Hg.out;have h4:=h3.turn (i:=tg) (gi:=gi) (k:=k) (t:=(j1,j2)) jv (List.getElem_set_self jv) (by show k<(jr sup y.stack st k).length;rw[eD];exact hk1) Gd.out;rw[List.set_set]at h4;have e:=Su sup Zj.out.symm hk1 hk2;rw[HTK.out,lg.out,xn.out]at e;rw[e];exact h4)
  have HX4:Hid (Below B w ((w3.setCell ⟨gi,k*2,none⟩ (.int .i64 j1)).setCell ⟨gi,k*2+1,none⟩ (.int .i64 j2))):=zH (((HX.out.trans (Hg.out.mono (Xe HB.out HX.out.size))).setCell (p:=⟨gi,k*2,none⟩) HBG.out _).setCell (p:=⟨gi,k*2+1,none⟩) HBG.out _);have q16:Hid (ZQ g y w ((w3.setCell ⟨gi,k*2,none⟩ (.int .i64 j1)).setCell ⟨gi,k*2+1,none⟩ (.int .i64 j2))):=zH ((QV.out.more HX.out.size Hg.out).turn (gi:=gi) (k:=k) (t:=(j1,j2)) QB.out jc.out Gd.out);have qmh:Hid (zd zf 2 ((w3.setCell ⟨gi,k*2,none⟩ (.int .i64 j1)).setCell ⟨gi,k*2+1,none⟩ (.int .i64 j2)) ((w3.setCell ⟨gi,k*2,none⟩ (.int .i64 j1)).setCell ⟨gi,k*2+1,none⟩ (.int .i64 j2)).heap.size (some ad) c st):=zH (pM (g:=gi) (AR zf.keeps HST.out Hg.out) (by simp) (yY w3 gi k (j1,j2)) (fun i hi ad' ea=>aQ.out ad' _ ea Gd.out QB.out jc.out (fun q=>by rw[q]at hk2;simp at hk2)));have hcell:((w3.setCell ⟨gi,k*2,none⟩ (.int .i64 j1)).setCell ⟨gi,k*2+1,none⟩ (.int .i64 j2)).cell? ⟨g,tg*2+1,none⟩=some (.slice (some ⟨gi,0,none⟩) n y.c)/\((w3.setCell ⟨gi,k*2,none⟩ (.int .i64 j1)).setCell ⟨gi,k*2+1,none⟩ (.int .i64 j2)).cell? ⟨gi,k*2,none⟩=some (.int .i64 j1)/\((w3.setCell ⟨gi,k*2,none⟩ (.int .i64 j1)).setCell ⟨gi,k*2+1,none⟩ (.int .i64 j2)).cell? ⟨gi,k*2+1,none⟩=some (.int .i64 j2):=by
   have h5:tg<(X.set tg ⟨true,y.A,y.c,jr sup y.stack st (k+1)⟩:List zg).length:=by rw[XH];exact hto
   have h6:(X.set tg ⟨true,y.A,y.c,jr sup y.stack st (k+1)⟩:List zg)[tg]=⟨true,y.A,y.c,jr sup y.stack st (k+1)⟩:=List.getElem_set_self h5;have h7:k<(jr sup y.stack st (k+1)).length:=by rw[eD];exact hk1
   have h8:(jr sup y.stack st (k+1))[k]=(j1,j2):=by
    have:=uY sup y.stack st (k+1) k hk1 hk2;rw[Xb (Nat.lt_succ_self _),Xc h7,HTK.out,lg.out,xn.out]at this;exact Option.some.inj this
   obtain⟨gi',rest',ea,_,lD⟩:=HO4.out.own tg h5 (by rw[h6];intro q;rw[show jr sup y.stack st (k+1)=[]from q]at h7;simp at h7);rw[h6]at ea lD;dsimp only at ea lD;rw[Gd.out]at ea;injection ea with ea;injection ea with ea;rw[<-ea]at lD;obtain⟨a1,a2⟩:=st_at lD h7;rw[h8]at a1 a2;exact⟨(GX.out w3 (j1,j2) oH.out).1,a1,a2⟩
  obtain⟨x1,x2,x3⟩:=hcell;clear z0 z1 z2 z3 d0 d1 d2 d3 d4;generalize((w3.setCell ⟨gi,k*2,none⟩ (.int .i64 j1)).setCell ⟨gi,k*2+1,none⟩ (.int .i64 j2))=w4 at*
  by_cases hz:j1=0
  ·have hz2:(j1,j2)=((0,0):Int×Int):=by
    have e:=TW (sup:=sup) (k:=s1) (n:=s2) (k':=t1) (n':=t2) (by rw[HJ.out];exact hz);rw[HJ.out]at e;exact e
   obtain⟨rfl,rfl⟩:j1=0/\j2=0:=by simpa using hz2
   clear hz hz2;go_wp2_with fail
   go_ret2
   exact Q7 HX4.out q16.out (qef (sup:=sup) (s:=y.shp) (i:=k) QB.out hk1 hk2 HF.out.1 HF.out.2 (by
    show(vc sup y.stack[k] st[k]).1=0;rw[HTK.out,lg.out,xn.out]))
  have HZ:=zH hz;go_wp2_with fail
  go_roundw;case rel=>exact⟨k+1,true,by omega,by go_num,rfl,HO4,HX4,q16,qmh,zH (fun i h1 h2 h=>by
    rcases Xl i k with q|q
    ·exact fH.out i h1 h2 q
    ·obtain rfl:i=k:=by omega
     rw[HTK.out,lg.out,xn.out];exact HZ.out),zH (fun e=>by cases e),zH (fun _=>⟨k,hk1,hk2,by rw[HTK.out,lg.out,show zB sup (t1,t2).1 (t1,t2).2 (s1,s2).1 (s1,s2).2=false from HR.out];decide⟩)⟩
  case measure=>simp[intOf];omega
def nG(g:Nat)(X:List zg)(w:World)(A:Option Addr):Prop:=∀ad,A=some ad->ad.block<w.heap.size/\ad.block≠g/\∀i (hi:i<X.length),X[i].stack≠ []->∀ax,X[i].A=some ax->ax.block≠ad.block
structure VI(m:za)(f B g nC R:Nat)(w1:World)(X:List zg)(w:World):Prop where
 len:X.length=nC
 rank:qx (zy m.classes).length (X.map zg.shp)<=R
 own:kW w B g X
 low:ZF m (f:Int) (X.map zg.shp)
 below:Below B w1 w
 flat:∀s ∈X.map zg.shp,ku s.stack/\(s.seen=false->s.stack=[])
theorem VI.keep{m:za}{f B g nC R:Nat}{w1 w w':World}{X:List zg}(h:VI m f B g nC R w1 X w)(hB:B<=w1.heap.size)(hb:Below w.heap.size w w'):VI m f B g nC R w1 X w':=
 ⟨h.len,h.rank,h.own.keep hb,h.low,h.below.trans (hb.mono (Xe hB h.below.size)),h.flat⟩
theorem VI.lower{m:za}{f B g nC R R':Nat}{w1 w:World}{X:List zg}(h:VI m f B g nC R w1 X w)(hr:qx (zy m.classes).length (X.map zg.shp)<=R'):VI m f B g nC R' w1 X w:=⟨h.len,hr,h.own,h.low,h.below,h.flat⟩
structure vE(m:za)(f B g nC R p q:Nat)(w1:World)(st L:List (Int×Int))(NL:List Int)(A7 A8:Option Addr)(c7 c8:Nat)(X:List zg)(w:World):Prop where
 inv:VI m f B g nC R w1 X w
 here:zx (X.map zg.shp) (p:Int)=⟨true,st⟩
 back:∀p':Nat,p'<p->kR m (f:Int) (X.map zg.shp) (p':Int)=true
 on:∀n ∈NL.take q,(zx (X.map zg.shp) n).seen=true/\zL (zy m.classes) L (zx (X.map zg.shp) n).stack
 ty:zd zf 2 w w.heap.size A7 c7 L
 nx:zd zu 1 w w.heap.size A8 c8 NL
 far7:L≠ []->nG g X w A7
 far8:NL≠ []->nG g X w A8
structure gV(m:za)(f p nC:Nat)(st L:List (Int×Int))(NL:List Int):Prop where
 eq:zI m (f:Int) (p:Int) st=⟨L,NL,0⟩
 few:L.length<=8
 next:∀n ∈NL,0<=n/\n<(nC:Int)
theorem PO{m:za}{x:zl}{f p:Nat}{st L:List (Int×Int)}{NL:List Int}(hm:zP m)(hx:m.methods[f]? =some x)(hp:p<x.code.length)(h:zI m (f:Int) (p:Int) st=⟨L,NL,0⟩):gV m f p x.code.length st L NL:=by
 obtain⟨⟨op,a,bb⟩,hi⟩:∃i,x.code[p]? =some i:=(by simp_all)
 have hxm:=hm.method (Xr hx);have him:=Xr hi;have e1:=pG (st:=st) hx hi;rw[h]at e1;have h1:=AY (m:=m) (st:=st) (F:=0) (hxm.fits.ct _ him) (hxm.co _ him) (by rw[<-e1]);have h2:=PP (m:=m) (x:=x) (pc:=(p:Int)) (op:=op) (a:=a) (b:=bb) (st:=st) (by rw[<-e1]);rw[<-e1]at h1 h2;exact⟨h,h2.2,h1⟩
theorem nG.more{g:Nat}{X:List zg}{w w':World}{A:Option Addr}(h:nG g X w A)(hz:w.heap.size<=w'.heap.size):nG g X w' A:=fun ad e=>by
 obtain⟨h1,h2,h3⟩:=h ad e
 grind
theorem vE.keep{m:za}{f B g nC R p q:Nat}{w1 w w':World}{st L:List (Int×Int)}{NL:List Int}{A7 A8:Option Addr}{c7 c8:Nat}{X:List zg}(h:vE m f B g nC R p q w1 st L NL A7 A8 c7 c8 X w)(hB:B<=w1.heap.size)(hb:Below w.heap.size w w'):vE m f B g nC R p q w1 st L NL A7 A8 c7 c8 X w':=
 ⟨h.inv.keep hB hb,h.here,h.back,h.on,AR zf.keeps h.ty hb,AR zu.keeps h.nx hb,fun e=>(h.far7 e).more hb.size,fun e=>(h.far8 e).more hb.size⟩
theorem qgr{m:za}{f B g nC R p:Nat}{w1 w w':World}{st L:List (Int×Int)}{NL:List Int}{A7 A8:Option Addr}{c7 c8:Nat}{X:List zg}(h:VI m f B g nC R w1 X w)(hB:B<=w1.heap.size)(hb:Below w.heap.size w w')(hh:zx (X.map zg.shp) (p:Int)=⟨true,st⟩)
  (hk:∀p':Nat,p'<p->kR m (f:Int) (X.map zg.shp) (p':Int)=true) (h7:zd zf 2 w' w'.heap.size A7 c7 L) (h8:zd zu 1 w' w'.heap.size A8 c8 NL) (n7:∀ad,A7=some ad->w.heap.size<=ad.block) (n8:∀ad,A8=some ad->w.heap.size<=ad.block):
  vE m f B g nC R p 0 w1 st L NL A7 A8 c7 c8 X w':=by
 have hg:=h.own.out.blk.lt;have hX:∀i (hi:i<X.length),X[i].stack≠ []->∀ax,X[i].A=some ax->ax.block<w.heap.size:=fun i hi q ax e=>by
  obtain⟨gi,e1,h1⟩:=(h.own.own i hi q).lt
  grind
 refine⟨h.keep hB hb,hh,hk,(by grind),h7,h8,fun q ad e=> ?_,fun q ad e=> ?_⟩
 ·have:=n7 ad e;have hl:0<L.length:=by
   grind
  obtain⟨ad',e',hb',_⟩:=h7.row.at_ hl
  grind
 ·have:=n8 ad e;have hl:0<NL.length:=by
   grind
  obtain⟨ad',e',hb',_⟩:=h8.row.at_ hl
  grind
theorem q35{m:za}{f pc:Int}{st:List (Int×Int)}(he:¬(zI m f pc st).err=0){n:Int}(hn:n ∈(zI m f pc st).next):0<=n:=by
 have hb:∀k,¬n ∈(qS k).next:=fun k h=>by simp[qS]at h
 unfold zI at he hn;by_cases g:0<=f/\f<m.methods.length/\0<=pc/\pc<(zA m f).code.length
 ·rw[Xb g]at he hn;cases hi:(zA m f).code[pc.toNat]? with
  |none=>
   grind
  |some i=>
   rw[hi]at he hn;obtain⟨op,a,b⟩:=i;dsimp only at he hn;unfold qT at he hn
   grind
 grind
section
variable{m:za}{f B g nC R p q tg:Nat}{w1 w w':World}{st L:List (Int×Int)}{NL:List Int}{A7 A8:Option Addr}{c7 c8:Nat}{X:List zg}
theorem vE.seen(h:vE m f B g nC R p q w1 st L NL A7 A8 c7 c8 X w)(hs:gV m f p nC st L NL):(zx (X.map zg.shp) (p:Int)).seen=true/\zI m (f:Int) (p:Int) (zx (X.map zg.shp) (p:Int)).stack=⟨L,NL,0⟩:=by
 rw[h.here];exact⟨rfl,hs.eq⟩
theorem vE.fitsL(h:vE m f B g nC R p q w1 st L NL A7 A8 c7 c8 X w)(hm:zP m)(hs:gV m f p nC st L NL)(hp:p<nC):zL (zy m.classes) L L:=by
 have hself:=h.inv.low.self _ (eF (S:=X.map zg.shp) (i:=p) (by rw[Xm,h.inv.len];exact hp));rw[h.here]at hself;have:=(Iz (f:=(f:Int)) (pc:=(p:Int)) hm hself (by show(zI m (f:Int) (p:Int) st).err=0;rw[hs.eq])).2.2;rw[show zI m (f:Int) (p:Int) ({seen:=true,stack:=st}:zq).stack=⟨L,NL,0⟩from hs.eq]at this;exact this
theorem vE.bad(h:vE m f B g nC R p q w1 st L NL A7 A8 c7 c8 X w)(hm:zP m)(hs:gV m f p nC st L NL)(hp:p<nC)(QC:tg<X.length)(hn:(tg:Int) ∈NL)(hc:mH (zy m.classes) X[tg].shp L):∀Q,vL m (f:Int) Q=false:=by
 obtain⟨h1,h2⟩:=h.seen hs;exact h.inv.low.none_come (pc:=p) (q:=tg) hm (by rw[Xm,h.inv.len];exact hp) (by grind) h1 (by grind) (by grind [mf])
theorem vE.come(h:vE m f B g nC R p q w1 st L NL A7 A8 c7 c8 X w)(hB:B<=w1.heap.size)(hm:zP m)(hs:gV m f p nC st L NL)(hp:p<nC)(QC:tg<X.length)(hn:(tg:Int) ∈NL){x':zg}{gr:Bool}(hx:x'.seen=true)(hb:Below B w w')(ho:kW w' B g (X.set tg x'))(hc:ZT (zy m.classes) X[tg].shp L x'.stack gr):
  ∃S',(X.set tg x').map zg.shp=S'/\S'=(X.map zg.shp).set tg ⟨true,x'.stack⟩/\(gr=true->qx (zy m.classes).length S'<R)/\(gr=false->S'=X.map zg.shp)/\VI m f B g nC R w1 (X.set tg x') w':=by
 obtain⟨h1,h2⟩:=h.seen hs;have e:(X.set tg x').map zg.shp=(X.map zg.shp).set tg ⟨true,x'.stack⟩:=by
  rw[Wd];unfold zg.shp;rw[hx]
 have xI:tg<(X.map zg.shp).length:=by grind
 have hc':ZT (zy m.classes) (zx (X.map zg.shp) (tg:Int)) L x'.stack gr:=by grind [mf]
 have F8:gr=true->qx (zy m.classes).length ((X.map zg.shp).set tg ⟨true,x'.stack⟩)<R:=fun g=>by
  subst g;exact Xp (KQ xI hc' hs.few) h.inv.rank
 have hsm:gr=false->(X.map zg.shp).set tg ⟨true,x'.stack⟩=X.map zg.shp:=(by grind [qed])
 refine⟨_,e,rfl,F8,hsm,by rw[XH];exact h.inv.len,?_,ho,?_,h.inv.below.trans hb,?_⟩
 ·rw[e];cases gr
  ·rw[hsm rfl];exact h.inv.rank
  grind
 ·rw[e];have:=h.inv.low.put (pc:=p) (q:=tg) (J:=x'.stack) (gr:=gr) hm (by rw[Xm,h.inv.len];exact hp) xI h1 (by grind) (by grind) (by rw[h2];exact hs.few);exact this
 ·rw[e];intro s hs';rcases X8 hs' with q|q
  ·exact h.inv.flat s q
  ·rw[q];have hp':p<(X.map zg.shp).length:=by rw[Xm,h.inv.len];exact hp
   have n1:=(h.inv.flat _ (eF hp')).1;rw[h.here]at n1;have n2:=S9 (f:=(f:Int)) (pc:=(p:Int)) hm n1 (by show(zI m (f:Int) (p:Int) st).err=0;rw[hs.eq]);rw[show zI m (f:Int) (p:Int) ({seen:=true,stack:=st}:zq).stack=⟨L,NL,0⟩from hs.eq]at n2;exact⟨hc'.null (fun _=>(h.inv.flat _ (eF xI)).1) n2,fun z=>by cases z⟩
theorem vE.far{A:Option Addr}(h:nG g X w A)(hz:w.heap.size<=w'.heap.size)(QC:tg<X.length){x':zg}{gr:Bool}(hc:ZT (zy m.classes) X[tg].shp L x'.stack gr)(h1:X[tg].seen=true->x'.A=X[tg].A)(h2:X[tg].seen=false->x'.stack≠ []->∀ad,x'.A=some ad->w.heap.size<=ad.block):nG g (X.set tg x') w' A:=fun ad e=>by
 obtain⟨a1,a2,a3⟩:=h ad e;refine⟨(by omega),a2,fun i hi q ax ea=> ?_⟩;rw[wK QC hi]at q ea;by_cases ei:tg=i
 ·rw[Xb ei]at q ea;cases hse:X[tg].seen
  ·grind
  ·rw[h1 hse]at ea;have hne:X[tg].stack≠ []:=fun z=>by
    have:=(hc.old hse).1;have z':X[tg].shp.stack=[]:=z
    grind
   grind
 grind
theorem vE.block{A:Option Addr}(h:nG g X w A)(QC:tg<X.length)(hsb:ZQ g X[tg] w w'):∀ad,A=some ad->w'.heap[ad.block]? =w.heap[ad.block]? :=fun ad e=>by
 obtain⟨a1,a2,a3⟩:=h ad e;exact hsb _ a1 a2 (by grind)
theorem vE.step(h:vE m f B g nC R p q w1 st L NL A7 A8 c7 c8 X w)(hB:B<=w1.heap.size)(hm:zP m)(hs:gV m f p nC st L NL)(hp:p<nC)(hq:q<NL.length)(htn:NL[q]=(tg:Int))(QC:tg<X.length){x':zg}{gr:Bool}(hx:x'.seen=true)(hb:Below B w w')(hsb:ZQ g X[tg] w w')
  (ho:kW w' B g (X.set tg x')) (hc:ZT (zy m.classes) X[tg].shp L x'.stack gr) (h1:X[tg].seen=true->x'.A=X[tg].A) (h2:X[tg].seen=false->x'.stack≠ []->∀ad,x'.A=some ad->w.heap.size<=ad.block) (hgr:gr=true->p<tg):
  vE m f B g nC R p (q+1) w1 st L NL A7 A8 c7 c8 (X.set tg x') w':=by
 have hn:(tg:Int) ∈NL:=by grind
 obtain⟨S',e1,e2,_,e4,hinv⟩:=h.come hB hm hs hp QC hn hx hb ho hc;have xI:tg<(X.map zg.shp).length:=by grind
 have hc':ZT (zy m.classes) (zx (X.map zg.shp) (tg:Int)) L x'.stack gr:=by grind [mf]
 have hset:∀i:Nat,zx ((X.map zg.shp).set tg ⟨true,x'.stack⟩) (i:Int)=if i=tg then⟨true,x'.stack⟩else zx (X.map zg.shp) (i:Int):=fun i=>pQ xI
 have hup:∀n ∈NL,(zx (X.map zg.shp) n).seen=true->zL (zy m.classes) L (zx (X.map zg.shp) n).stack->(zx ((X.map zg.shp).set tg ⟨true,x'.stack⟩) n).seen=true/\zL (zy m.classes) L (zx ((X.map zg.shp).set tg ⟨true,x'.stack⟩) n).stack:=fun n hnm g1 g2=>by
  obtain⟨k,rfl⟩:=Xj (hs.next n hnm).1;rw[hset];by_cases ek:k=tg
  ·rw[Xb ek];exact⟨rfl,hc.up⟩
  grind
 refine⟨hinv,?_,fun p' hp'=> ?_,fun n hnm=> ?_,?_,?_,fun z=>vE.far (h.far7 z) hb.size QC hc h1 h2,fun z=>vE.far (h.far8 z) hb.size QC hc h1 h2⟩
 ·rw[e1];cases gr
  ·rw[e4 rfl];exact h.here
  ·have:=hgr rfl;rw[e2,hset,Xa (by omega)];exact h.here
 ·rw[e1];cases gr
  ·rw[e4 rfl];exact h.back p' hp'
  ·have:=hgr rfl;rw[e2];exact qc6 xI (by omega) (h.back p' hp') (fun n hnn=>by
    have hpl:=h.inv.low.len;by_cases he:(zI m (f:Int) (p':Int) (zx (X.map zg.shp) (p':Int)).stack).err=0
    ·have hF:p'<(zA m (f:Int)).code.length:=by omega
     by_cases hfm:f<m.methods.length
     ·have hx':m.methods[f]? =some m.methods[f]:=(by grind)
      have e5:zA m (f:Int)=m.methods[f]:=by unfold zA;simp_all
      rw[e5]at hF;obtain⟨LL,NN,er,e6⟩:∃LL NN er,zI m (f:Int) (p':Int) (zx (X.map zg.shp) (p':Int)).stack=⟨LL,NN,er⟩:=⟨_,_,_,rfl⟩
      rw[e6]at he hnn;dsimp only at he hnn;subst he;exact((PO hm hx' hF e6).next n hnn).1
     ·unfold zI at hnn;rw[Xa (by omega)]at hnn;simp[qS]at hnn
    ·have hbk:=h.back p' hp';by_cases hse:(zx (X.map zg.shp) (p':Int)).seen=true
     ·exact absurd ((uS.mp hbk) hse).1 he
     ·exact q35 he hnn) hc'
 ·rw[List.take_succ_eq_append_getElem hq]at hnm;have hmem:n ∈NL:=by
   rcases Xu.mp hnm with z|z
   ·exact Wl z
   ·rw[XR.mp z];exact Xd hq
  rw[e1,e2];rcases Xu.mp hnm with z|z
  ·obtain⟨g1,g2⟩:=h.on n z;exact hup n hmem g1 g2
  ·rw[XR.mp z,htn,hset,Xb rfl];exact⟨rfl,hc.up⟩
 ·by_cases z:L=[]
  ·subst z;have:=h.ty;exact⟨this.le,this.cap,fun i t hi=>by simp at hi⟩
  ·exact qiz h.ty hb.size (vE.block (h.far7 z) QC hsb)
 ·by_cases z:NL=[]
  ·subst z;have:=h.nx;exact⟨this.le,this.cap,fun i t hi=>by simp at hi⟩
  ·exact qha h.nx hb.size (vE.block (h.far8 z) QC hsb)
theorem vE.place(h:vE m f B g nC R p NL.length w1 st L NL A7 A8 c7 c8 X w)(hs:gV m f p nC st L NL):∀p':Nat,p'<p+1->kR m (f:Int) (X.map zg.shp) (p':Int)=true:=fun p' hp'=>by
 rcases Xl p' p with z|z
 ·exact h.back p' z
 ·obtain rfl:p'=p:=by omega
  obtain⟨_,h2⟩:=h.seen hs;rw[uS,h2];intro _;have:=h.on
  grind
end
theorem Yx.set{m:za}{f:Int}{S:List zq}(h:Yx m f S):fD m f S:=by
 have hr:=h.right;unfold vL Ff at hr;simp only[Xt,Xw]at hr;obtain⟨⟨_,h2,h3,_⟩,h5⟩:=hr;refine⟨⟨h2,h3,h.small⟩,fun pc hpc hs=> ?_⟩;have h6:=Xy.mp h5 pc (Wb.mpr hpc);unfold kR goB at h6;rw[hs]at h6;simp only[Bool.not_true,Bool.false_or,Xt,Xw]at h6;refine⟨h6.1,fun n hn=> ?_⟩;have h7:=Xy.mp h6.2 n hn;unfold onB at h7;rw[Xt]at h7;have h8:wJ (zy m.classes) (zI m f pc (zx S pc).stack).after (zx S n).stack=true:=by
  exact h7.2
 unfold wJ at h8;rw[Xt,Xw]at h8;exact⟨h7.1,h8.1⟩
set_option maxHeartbeats 6400000 in
theorem q3f(l:List (List zq))(A A':Option Addr)(c c':Nat)(w:World)(h:zd (zM vd 2) 1 w w.heap.size A c l)(h':zd (zM vd 2) 1 w w.heap.size A' c' l):
  Calls Tryz.prog 11 #[.slice A l.length c,.slice A' l.length c'] w fun e w'=>e= .returned (.bool true)/\Below w.heap.size w w':=by
 have HA:=zH h;have HA':=zH h';have a1:=h.le;have a2:=h.cap;have a3:=h'.le;have a4:=h'.cap;clear h h';obtain⟨n,hn⟩:=zj (l.length);have HN:=zH hn;rw[hn]at a1 a3⊢
 clear hn;have HX0:=qP w;go_enter Tryz.func11,Tryz.ntmps11;go_wp2_with fail
 go_loopw [5] (fun i wr=>∃k:Nat,k<=n/\i= .int .i64 k/\Hid (Below w.heap.size w wr)) (fun i _=>n - (intOf i).toNat)
 case atStart=>exact⟨0,Xn _,rfl,HX0⟩
 case round=>
  clear HX0;obtain⟨k,hk,rfl,HX⟩:=hrel;by_cases hlt:k<n;rotate_left
  ·have hki:¬(k:Int)<(n:Int):=by omega
   go_wp2_with fail
   go_ret;exact⟨by first|rfl|simp,HX.out⟩
  have hkl:k<l.length:=by rw[HN.out];exact hlt
  obtain⟨S,hS⟩:=zj (l[k]);obtain⟨ad,rfl,hab,A1,c1,r0,hs⟩:=HA.out.row.at_ hkl;obtain⟨ad',rfl,hab',xk,c1',r0',hs'⟩:=HA'.out.row.at_ hkl;rw[hS]at r0 hs r0' hs';rw[Xq]at r0 r0';have ky:=zH r0;have q1t:=zH r0';have qY:Hid (ad.block<w.heap.size/\ad'.block<w.heap.size):=zH ⟨hab,hab'⟩;have iW:=zH hs;have qlq:=zH hs';have s1:=hs.le;have s2:=hs.cap;have s3:=hs'.le;have s4:=hs'.cap;have r0:=(HX.out.cell (p:=ad.add k) (by exact zZ hab)).trans r0;have r0':=(HX.out.cell (p:=ad'.add k) (by rw[zC];exact hab')).trans r0';have hki:(k:Int)<(n:Int):=by omega
  clear hs hs' hS hkl hab hab';go_upto_region 6 with fail
  go_region
  all_goals
   go_wp2_with fail
   clear r0 r0';have qy:Hid (Below w.heap.size w wr.drew):=zH HX.out.drew;go_loopw [6] (fun i wi=>∃s:Nat,s<=S.length/\i= .int .i64 s/\Hid (Below w.heap.size w wi)) (fun i _=>S.length - (intOf i).toNat)
   case atStart=>exact⟨0,Xn _,rfl,qy⟩
   case round=>
    clear qy HX;obtain⟨s,hsl,rfl,HX⟩:=hrel;have r0:=(HX.out.cell (p:=ad.add k) (by rw[zC];exact qY.out.1)).trans ky.out;have r0':=(HX.out.cell (p:=ad'.add k) (by rw[zC];exact qY.out.2)).trans q1t.out;by_cases hst:s<S.length;rotate_left
    ·have hsi:¬(s:Int)<(S.length:Int):=by omega
     go_wp2_with fail
     go_roundw;case rel=>exact⟨k+1,by omega,by go_num,HX⟩
     case measure=>simp[intOf];omega
    have hsi:(s:Int)<(S.length:Int):=by omega
    obtain⟨bd,rfl,hbb,t0,B1,e1,t1,ht⟩:=iW.out.row.at_ hst;obtain⟨iV,rfl,NI,t0',B1',e1',t1',ht'⟩:=qlq.out.row.at_ hst;generalize S[s]=sh at*
    obtain⟨se,st⟩:=sh;dsimp only at t0 t0' t1 t1' ht ht';have HT:=zH ht;have dJ:=zH ht';have t2:=ht.le;have t3:=ht.cap;have t4:=ht'.le;have t5:=ht'.cap;have hd:(se !=se)=false:=by simp
    have kA:Hid (st.length=st.length):=zH rfl;have Hf:Hid (decide (st=st)=true):=zH (Xi rfl);have jC:Hid (∀W,Below w.heap.size w W->(fun w'=>w'.cell? (ad.add k)=some (.slice (some bd) S.length c1)/\w'.cell? (ad'.add k)=some (.slice (some iV) S.length c1')/\w'.cell? (bd.add (s*2))=some (.bool se)/\w'.cell? (iV.add (s*2))=some (.bool se)/\w'.cell? (zc (bd.add (s*2)) 1)=some (.slice B1 st.length e1)/\w'.cell? (zc (iV.add (s*2)) 1)=some (.slice B1' st.length e1')) W):=zH (fun W hW=>⟨(hW.cell (p:=ad.add k) (by rw[zC];exact qY.out.1)).trans ky.out,(hW.cell (p:=ad'.add k) (by rw[zC];exact qY.out.2)).trans q1t.out,(hW.cell (p:=bd.add (s*2)) (by exact zZ hbb)).trans t0,(hW.cell (p:=iV.add (s*2)) (by rw[zC];exact NI)).trans t0',(hW.cell (p:=zc (bd.add (s*2)) 1) (by show(bd.add _).block<_;rw[zC];exact hbb)).trans t1,(hW.cell (p:=zc (iV.add (s*2)) 1) (by show(iV.add _).block<_;rw[zC];exact NI)).trans t1'⟩);have qy:Hid (Below w.heap.size w wr.drew):=zH HX.out.drew;clear t0 t0' t1 t1' ht ht' hbb NI;go_upto_region 11 with fail
    clear r0 r0';go_region_held3 (fun w'=>w'.cell? (ad.add k)=some (.slice (some bd) S.length c1)/\w'.cell? (ad'.add k)=some (.slice (some iV) S.length c1')/\w'.cell? (bd.add (s*2))=some (.bool se)/\w'.cell? (iV.add (s*2))=some (.bool se)/\w'.cell? (zc (bd.add (s*2)) 1)=some (.slice B1 st.length e1)/\w'.cell? (zc (iV.add (s*2)) 1)=some (.slice B1' st.length e1')) (first|exact jC.out _ qy.out|exact jC.out _ qc.out) (first
     |(go_at_call 28;(with_reducible refine(yS HT dJ qy kA kA Hf).mono ?_);rintro e w5 ⟨rfl,hb⟩;have qc:=zi qy hb;clear hb))
    rename_i hHeld;clear hHeld;go_wp2_with fail
    go_roundw;case rel=>exact⟨s+1,by omega,by go_num,qc⟩
    case measure=>simp[intOf];omega
