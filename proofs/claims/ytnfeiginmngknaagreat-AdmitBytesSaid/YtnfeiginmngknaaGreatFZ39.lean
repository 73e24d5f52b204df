import Derived.Test.YtnfeiginmngknaaGreatFZ35
namespace Go.Proofs.YtnfeiginmngknaaGreat
set_option maxRecDepth 100000
set_option linter.unusedVariables false
set_option linter.unusedSimpArgs false
open Go.ChangeShapes Go.WideShapes Go.ChangeAt Go.RowKit
theorem qfq{m:za}{f pc:Int}{st:List (Int×Int)}(h:¬(zI m f pc st).err=0):(zI m f pc st).next=[]:=by
 unfold zI at h⊢
 split
 ·rename_i h1;rw[Xb h1]at h;split
  ·rename_i i hi;rw[hi]at h;dsimp only at h;unfold qT at h⊢
   split
   ·rfl
   ·rename_i h2;rw[Xa h2]at h;split
    ·rfl
    ·rename_i h3;rw[Xa h3]at h;split
     ·rename_i h4;rw[Xb h4]at h;exact absurd rfl h
     ·rfl
  ·rfl
 ·rfl
theorem qa4(p:Addr):p.add 0=p:=by simp[Addr.add]
set_option maxHeartbeats 12800000 in
theorem qbn(m:za)(l:List (List zq))(A:Option Addr)(c:Nat)(h:zh)(w:World)(H:zr w w.heap.size h m)(hm:zP m)(hT:jO m w A c l):
  Calls Tryz.prog 33 #[zv h m,.slice A l.length c] w fun e w'=>e= .returned (.int .i64 (Zy m l))/\Below w.heap.size w w':=by
 obtain⟨hM,FI,sV,Cz⟩:=hT;have HW:=zH (vU (w:=w) (h:=h) (m:=m));have HBX:=zH (qd w h m);have HZ:Hid (w.heap.size<(w.alloc (ze h m)).heap.size):=zH (by simp);have HI:=zH (H.now HW.out);have HM:=zH hm;have vl:=zH FI;have FV:=zH Cz;have hle:=H.methods.le;have hcap:=H.methods.cap;have hl1:=hM.le;have hl2:=hM.cap;have kD:=zH sV;have Zd:=zH (jP Vp.keeps hM HW.out);rw[sV]at hl1;rw[sV];obtain⟨b,hb⟩:=zj (Zy m l);have HE:=zH hb;rw[hb];clear H hM hb hm FI Cz sV;go_enter Tryz.func33,Tryz.ntmps33;go_upto_region 1 with fail
 generalize w.alloc (ze h m)=w1 at*
 obtain⟨q0,q1,q2,q3,q4,q5,q6⟩:=HBX.out;go_wp2_with fail
 clear q0 q1 q2 q3 q4 q5 q6;go_loopw [5] (fun i wr=>∃k:Nat,k<=m.methods.length/\i= .int .i64 k/\Hid (∀g,g<k->VD m l g=false)/\Hid (Below w1.heap.size w1 wr)) (fun i _=>m.methods.length - (intOf i).toNat)
 case atStart=>exact⟨0,Xn _,rfl,zH (fun f hf=>by omega),zH (zb _ _)⟩
 case round=>
  obtain⟨k,hk,rfl,HA,HX⟩:=hrel;obtain⟨q0,q1,q2,q3,q4,q5,q6⟩:=HBX.out.keep HX.out HZ.out;by_cases hlt:k<m.methods.length;rotate_left
  ·have hki:¬(k:Int)<(m.methods.length:Int):=by omega
   have HB:Hid (b= -1):=zH (by rw[<-HE.out];exact Tx (fun g hg=>HA.out g (by omega)));go_wp2_with fail
   go_ret;exact⟨by rw[HB.out];first|rfl|simp,HW.out.trans (HX.out.mono (Xg HZ.out))⟩
  have hki:(k:Int)<(m.methods.length:Int):=by omega
  have hkl:k<l.length:=by rw[kD.out];exact hlt
  obtain⟨Zt,rfl,oI,A1,c1,r0,jd⟩:=Zd.out.row.at_ hkl;obtain⟨ad,hx,eA,hab,hin,hcm⟩:=Zx HI.out hlt;obtain⟨A0,Ab,A2,A3,A4,k0,k1,k2,k3,k4⟩:=h;dsimp only at eA q0 q1 q2 q3 q4 q5 q6 hle hcap;subst eA;have QT:Hid (m.methods[k] ∈m.methods):=zH (Xd hlt);have MK:zA m (k:Int)=m.methods[k]:=by unfold zA;rw[Xo,Xc hlt];rfl
  have hbad:VD m l k= !mO m k m.methods[k] l[k]:=by unfold VD;rw[MK,Xc hkl];rfl
  have jZ:=zH hbad;have sj:=zH (FV.out k l[k] (Xc hkl));have Qc:=zH MK;clear hbad MK;generalize m.methods[k]=x at*
  generalize l[k]=S at*
  obtain⟨c0,c1',c2,c3,c4,c5,c6,c7⟩:=hcm.keep HX.out (by exact zZ hab);have hcp:x.code.length=x.phi.length/\0<x.code.length:=by have:=(HM.out.method QT.out);exact⟨this.ph.symm,this.cp⟩
  obtain⟨n,hn⟩:=zj (x.code.length);have Yf:=zH hn;have hpn:x.phi.length=n:=by omega
  have bF:=zH hpn;have hn0:0<n:=by omega
  have hcl:=hin.code.le;have hcc:=hin.code.cap;have hpl:=hin.phi.le;have hpc:=hin.phi.cap;rw[hn]at c4 hcl;rw[hpn]at c7 hpl;have wV:=zH hin.code.row;have tX:=zH hin.phi.row;obtain⟨xA0,xA1,Yb,JA,Zm,Zo,vP,vF⟩:=hx;dsimp only at c0 c1' c4 c7 hcl hcc hpl hpc wV tX;obtain⟨pA,rfl,hpb,hpz⟩:=tX.out.at_ (show 0<x.phi.length by omega);obtain⟨ac,rfl,yn,hcz⟩:=wV.out.at_ (show 0<x.code.length by omega);have xx:Hid (∀i:Nat,i<n->w1.cell? (pA.add i)=some (.int .i64 (kY x (i:Int)))):=zH (fun i hi=>by
   obtain⟨pA',e,_,pi⟩:=tX.out.at_ (show i<x.phi.length by omega);injection e with e;subst e;rw[Xq]at pi;unfold kY;rw[Xo,Xc (show i<x.phi.length by omega)];exact pi)
  have hxs:=HX.out.size;have ki:Hid (∀i:Nat,i<n->0<=kY x (i:Int)/\kY x (i:Int)<=4096):=zH (fun i hi=>by
   unfold kY;rw[Xo,Xc (by omega)];exact(HM.out.method QT.out).fits.pt _ (Xd _))
  have hpot:=(HM.out.method QT.out).fits.p1;have zp:Hid (Below w1.heap.size w1 (wr.alloc (.cells #[.slice xA0 x.args.length Zm,.slice xA1 x.locals.length Zo,.int .i64 x.ret.1,.int .i64 x.ret.2,.slice (some ac) n vP,.int .i64 x.depth,.int .i64 x.pot,.slice (some pA) n vF] 48))):=zH (HX.out.alloc hxs _);have HXB:=zH (zm.new wr [.slice xA0 x.args.length Zm,.slice xA1 x.locals.length Zo,.int .i64 x.ret.1,.int .i64 x.ret.2,.slice (some ac) n vP,.int .i64 x.depth,.int .i64 x.pot,.slice (some pA) n vF] 48);clear hpz hcz;clear hcp hin hcm hn hpn tX;go_upto_region 5 with fail
  have HXB:Hid (zm (wr.alloc (.cells #[.slice xA0 x.args.length Zm,.slice xA1 x.locals.length Zo,.int .i64 x.ret.1,.int .i64 x.ret.2,.slice (some ac) n vP,.int .i64 x.depth,.int .i64 x.pot,.slice (some pA) n vF] 48)) wr.heap.size [.slice xA0 x.args.length Zm,.slice xA1 x.locals.length Zo,.int .i64 x.ret.1,.int .i64 x.ret.2,.slice (some ac) n vP,.int .i64 x.depth,.int .i64 x.pot,.slice (some pA) n vF] 48):=HXB;obtain⟨w3,hw3⟩:∃z,wr.alloc (.cells #[.slice xA0 x.args.length Zm,.slice xA1 x.locals.length Zo,.int .i64 x.ret.1,.int .i64 x.ret.2,.slice (some ac) n vP,.int .i64 x.depth,.int .i64 x.pot,.slice (some pA) n vF] 48)=z:=⟨_,rfl⟩
  rw[hw3]at zp HXB⊢
  have Co:Hid (wr.heap.size<w3.heap.size):=zH (by rw[<-hw3];simp);clear hw3;obtain⟨N,hN⟩:∃z,wr.heap.size=z:=⟨_,rfl⟩
  rw[hN]at HXB Co⊢
  clear hN;have b6:=HXB.out.cells 6 _ rfl;have b7:=HXB.out.cells 7 _ rfl;have p0:=(zp.out.cell (p:=pA.add 0) (by exact zZ hpb)).trans (xx.out 0 hn0);rw[show pA.add 0=pA from qa4 pA]at p0;obtain⟨ph0,Oy⟩:∃z,kY x ((0:Nat):Int)=z:=⟨_,rfl⟩
  rw[Oy]at p0;have F7:=zH Oy;clear Oy q0 q1 q2 q3 q4 q5 q6 c0 c1' c2 c3 c4 c5 c6 c7;by_cases h0:ph0>x.pot
  ·have HB:Hid (b=(k:Int)):=zH (by
    rw[<-HE.out];refine Lx hlt HA.out ?_;rw[jZ.out];have e:mO m k x S=false:=by
     unfold mO;rw[Xf (by have:=F7.out;simp at this;omega),Bool.false_and]
    rw[e];rfl)
   go_wp2_with fail
   go_region
   go_wp2_with fail
   go_ret;exact⟨by rw[HB.out];first|rfl|simp,HW.out.trans (zp.out.mono (Xg HZ.out)).drew⟩
  go_wp2_with fail
  go_region
  have HX4:=zH zp.out.drew;have q29:Hid (zm w3.drew N [.slice xA0 x.args.length Zm,.slice xA1 x.locals.length Zo,.int .i64 x.ret.1,.int .i64 x.ret.2,.slice (some ac) n vP,.int .i64 x.depth,.int .i64 x.pot,.slice (some pA) n vF] 48):=HXB;have oG:Hid (N<w3.drew.heap.size):=Co;have hxp:kY x 0<=x.pot:=by have:=F7.out;simp at this;omega
  have HPX:=zH hxp;clear HXB zp HX p0 b6 b7 hxp Co;generalize w3.drew=w4 at*
  have iW:=zH jd;have hS1:=jd.le;have hS2:=jd.cap;have iM:S.length=n:=by rw[sj.out.grow.len,Qc.out,Yf.out]
  rw[iM]at hS1 r0;have jD:=zH iM;have Qi:=zH HX4.out.size;have HK:Hid (∀W,Below w4.heap.size w4 W->(fun w'=>w'.cell? ⟨w.heap.size,0,none⟩=some (.slice A0 m.classes.length k0)/\w'.cell? ⟨w.heap.size,1,none⟩=some (.slice Ab m.statics.length k1)/\w'.cell? ⟨w.heap.size,2,none⟩=some (.slice A2 m.ints.length k2)/\w'.cell? ⟨w.heap.size,3,none⟩=some (.slice (some ad) m.methods.length k3)/\w'.cell? ⟨w.heap.size,4,none⟩=some (.slice A4 m.entries.length k4)/\w'.cell? ⟨w.heap.size,5,none⟩=some (.int .i64 m.stack)/\w'.cell? ⟨w.heap.size,6,none⟩=some (.int .i64 m.heap)) W/\W.cell? (Zt.add k)=some (.slice A1 n c1)/\W.cell? ⟨N,4,none⟩=some (.slice (some ac) n vP)/\W.cell? ⟨N,7,none⟩=some (.slice (some pA) n vF)):=zH (fun W hW=>by
   have hW1:=HX4.out.trans (hW.mono Qi.out);obtain⟨d0,d1,d2,d3,d4,d5,d6⟩:=HBX.out.keep hW1 HZ.out;rw[Xq]at r0;exact⟨⟨d0,d1,d2,d3,d4,d5,d6⟩,(hW1.cell (p:=Zt.add k) (by exact zZ oI)).trans r0,(hW.cell (p:=⟨N,4,none⟩) oG.out).trans (q29.out.cells 4 _ rfl),(hW.cell (p:=⟨N,7,none⟩) oG.out).trans (q29.out.cells 7 _ rfl)⟩)
  have tO:Hid ((∀pc,pc<n->Ve m k x S pc=true)->∀g,g<k+1->VD m l g=false):=zH (fun hp g hg=>by
   rcases Xl g k with q|q
   ·exact HA.out g q
   ·obtain rfl:g=k:=by omega
    rw[jZ.out,qh4 HPX.out (fun pc hpc=>hp pc (by rw[<-Yf.out];exact hpc))];rfl)
  have HBF:Hid (∀pc,pc<n->Ve m k x S pc=false->b=(k:Int)):=zH (fun pc hpc hf=>by
   rw[<-HE.out];refine Lx hlt HA.out ?_;rw[jZ.out,qjq (by rw[Yf.out];exact hpc) hf];rfl)
  clear jd r0 iM HA jZ HE;have HY0:=qP w4;go_wp2_with fail
  go_loopw [7] (fun i wr=>∃pc:Nat,pc<=n/\i= .int .i64 pc/\Hid (∀p,p<pc->Ve m k x S p=true)/\Hid (Below w4.heap.size w4 wr)) (fun i _=>n - (intOf i).toNat)
  case atStart=>exact⟨0,Xn _,rfl,zH (fun p hp=>by omega),HY0⟩
  case round=>
   obtain⟨pc,hpc,rfl,HP,HY⟩:=hrel;obtain⟨⟨q0,q1,q2,q3,q4,q5,q6⟩,rM,b4,b7⟩:=HK.out _ HY.out;by_cases hpn:pc<n;rotate_left
   ·have hpi:¬(pc:Int)<(n:Int):=by omega
    have qO:=zH (tO.out (fun p hp=>HP.out p (by omega)));have BB:=zH (HX4.out.trans (HY.out.mono Qi.out));go_wp2_with fail
    go_roundw;case rel=>exact⟨k+1,by omega,by go_num,qO,BB⟩
    case measure=>simp[intOf];omega
   have hpi:(pc:Int)<(n:Int):=by omega
   obtain⟨Yh,eS,xm,u0,Ast,cst,u1,hu⟩:=iW.out.row.at_ (show pc<S.length by rw[jD.out];exact hpn);subst eS;have Cn:zx S (pc:Int)=S[pc]'(by rw[jD.out];exact hpn):=bS (by rw[jD.out];exact hpn)
   have q1x:(S[pc]'(by rw[jD.out];exact hpn)).stack.length<=8:=sj.out.grow.small _ (Xd _);generalize S[pc]'(by rw[jD.out];exact hpn)=s at*
   have vR:=zH Cn;have HU:=zH hu;have yw:=zH (HBF.out pc hpn);have q2c:Hid (Ve m k x S pc=true->∀p,p<pc+1->Ve m k x S p=true):=zH (fun g p hp=>by
    rcases Xl p pc with q|q
    ·exact HP.out p q
    ·obtain rfl:p=pc:=by omega
     exact g)
   have jC:Hid (∀W,Below w4.heap.size w4 W->W.cell? (Yh.add (pc*2))=some (.bool s.seen)/\W.cell? (zc (Yh.add (pc*2)) 1)=some (.slice Ast s.stack.length cst)):=zH (fun W hW=>by
    have hW1:=HX4.out.trans (hW.mono Qi.out);exact⟨(hW1.cell (p:=Yh.add (pc*2)) (by exact zZ xm)).trans u0,(hW1.cell (p:=zc (Yh.add (pc*2)) 1) (by show(Yh.add _).block<_;rw[zC];exact xm)).trans u1⟩)
   clear u0 u1 hu Cn;obtain⟨u0,u1⟩:=jC.out _ HY.out;by_cases hse:s.seen=true;rotate_left
   ·have tZ:s.seen=false:=by simpa using hse
    have HYS:=zH (q2c.out (by unfold Ve;rw[vR.out,tZ];rfl));go_wp2_with fail
    go_roundw;case rel=>exact⟨pc+1,by omega,by go_num,HYS,HY⟩
    case measure=>simp[intOf];omega
   have QB:=zH hse;obtain⟨⟨L,NL,er⟩,hrs⟩:∃r,zI m (k:Int) (pc:Int) s.stack=r:=⟨_,rfl⟩
   have kK:=zH hrs;have hnx:Qm m k S pc=NL:=by unfold Qm;rw[vR.out,hrs]
   have q1u:=zH hnx;have qy:Hid (Below w1.heap.size w1 wr.drew):=zH (HX4.out.trans (HY.out.mono Qi.out)).drew;have HYD:Hid (Below w4.heap.size w4 wr.drew):=zH HY.out.drew;have CB:=zH (slcDr zf.keeps (jP zf.keeps HU.out (HX4.out.trans (HY.out.mono Qi.out))));have Nb:s.stack.length<=4000:=Xe q1x (by decide);have fF:Hid (∀W,Below w4.heap.size w4 W->(fun w'=>I7 w.heap.size A0 Ab A2 (some ad) A4 k0 k1 k2 k3 k4 m w' (w'.cell? (Zt.add k)=some (.slice (some Yh) n c1)/\w'.cell? (zc (Yh.add (pc*2)) 1)=some (.slice Ast s.stack.length cst))) W):=zH (fun W hW=>by
    obtain⟨⟨d0,d1,d2,d3,d4,d5,d6⟩,rM',_,_⟩:=HK.out W hW;exact⟨d0,d1,d2,d3,d4,d5,d6,rM',(jC.out W hW).2⟩)
   clear hrs hnx q0 q1 q2 q3 q4 q5 q6;obtain⟨⟨q0,q1,q2,q3,q4,q5,q6⟩,rM,b4,b7⟩:=HK.out _ HY.out;go_wp2_with fail
   clear u0 u1 q0 q1 q2 q3 q4 q5 q6 rM b4 b7;go_region_held3 (fun w'=>I7 w.heap.size A0 Ab A2 (some ad) A4 k0 k1 k2 k3 k4 m w' (w'.cell? (Zt.add k)=some (.slice (some Yh) n c1)/\w'.cell? (zc (Yh.add (pc*2)) 1)=some (.slice Ast s.stack.length cst))) (first|exact fF.out _ HYD.out|exact fF.out _ fM.out) (first|(go_at_call 54;(with_reducible refine(UR HI qy HM (zH rfl) CB Nb kK).mono ?_);rintro e w6 ⟨A7,c7,A8,c8,rfl,hs7,QW,hb⟩;have H8:=zH QW;have HX6:=zi qy hb;have fM:=zi HYD hb;clear hs7 QW hb))
   rename_i hHeld;clear hHeld;have hm1:=H8.out.le;have hm2:=H8.out.cap;have hpx:pc<x.code.length:=by rw[Yf.out];exact hpn
   obtain⟨⟨op,a,bb⟩,hi⟩:∃i,x.code[pc]? =some i:=⟨_,Xc hpx⟩
   have him:=Xr hi;have iR:Hid (∀t ∈NL,0<=t/\t<(n:Int)):=zH (fun t ht=>by
    by_cases her:er=0
    ·have hgx:m.methods[k]? =some x:=by
      have e1:=Qc.out;unfold zA at e1;rw[Xo,Xc hlt,Wo]at e1;rw[Xc hlt,e1]
     have hxm:=HM.out.method QT.out;have e1:=pG (st:=s.stack) hgx hi;rw[kK.out]at e1;have h1:=AY (m:=m) (st:=s.stack) (F:=0) (hxm.fits.ct _ him) (hxm.co _ him) (by rw[<-e1];exact her);rw[<-e1]at h1;have:=h1 t ht;rw[Yf.out]at this;exact this
    ·have h1:=qfq (m:=m) (f:=(k:Int)) (pc:=(pc:Int)) (st:=s.stack) (by rw[kK.out];exact her);rw[kK.out]at h1;dsimp only at h1;rw[h1]at ht;cases ht)
   obtain⟨ac',eC,hac,i0,i1,i2⟩:=wV.out.at_ hpx;injection eC with eC;subst eC;have hix:x.code[pc]=(op,a,bb):=by
    have:=hi;rw[Xc hpx]at this;exact Option.some.inj this
   rw[hix]at i0 i1 i2;obtain⟨v,hv⟩:=zj (QP m op a bb);have HV:=zH hv;have Cj:=zH him;have hvs:=R8 HM.out QT.out him;rw[hv]at hvs;have hcp:JU m x pc=v:=by unfold JU;rw[hi];exact hv
   have OA:=zH hcp;obtain⟨vp,hvp⟩:∃z,kY x ((pc:Nat):Int)=z:=⟨_,rfl⟩
   have HVP:=zH hvp;have hpr:=ki.out pc hpn;rw[hvp]at hpr;have HTK:Hid (∀t,dh m x pc t=decide (v+kY x t<=vp)):=zH (fun t=>by unfold dh;rw[OA.out,HVP.out]);have HKC:Hid (∀W,Below w4.heap.size w4 W->W.cell? (ac.add (pc*3))=some (.int .i64 op)/\W.cell? (zc (ac.add (pc*3)) 1)=some (.int .i64 a)/\W.cell? (zc (ac.add (pc*3)) 2)=some (.int .i64 bb)/\W.cell? (pA.add pc)=some (.int .i64 vp)/\∀q:Nat,q<n->W.cell? (pA.add q)=some (.int .i64 (kY x (q:Int)))):=zH (fun W hW=>by
    have hW1:=HX4.out.trans (hW.mono Qi.out);refine⟨(hW1.cell (p:=ac.add (pc*3)) (by exact zZ hac)).trans i0,(hW1.cell (p:=zc (ac.add (pc*3)) 1) (by show(ac.add _).block<_;rw[zC];exact hac)).trans i1,(hW1.cell (p:=zc (ac.add (pc*3)) 2) (by show(ac.add _).block<_;rw[zC];exact hac)).trans i2,?_,fun q hq=>(hW1.cell (p:=pA.add q) (by exact zZ hpb)).trans (xx.out q hq)⟩;rw[<-HVP.out];exact(hW1.cell (p:=pA.add pc) (by exact zZ hpb)).trans (xx.out pc hpn))
   clear i0 i1 i2 hi him hix hv hcp hvp hpx;go_wp2_with fail
   go_loopw [11] (fun i wi=>∃j:Nat,j<=NL.length/\i= .int .i64 j/\Hid (∀t ∈NL.take j,dh m x pc t=true)/\Hid (Below w6.heap.size w6 wi)) (fun i _=>NL.length - (intOf i).toNat)
   case atStart=>exact⟨0,Xn _,rfl,zH (by simp),zH (zb _ _)⟩
   case round=>
    obtain⟨j,hj,rfl,HJ,HZ6⟩:=hrel;have Oe:=zH (zD fM HZ6);by_cases hjl:j<NL.length;rotate_left
    ·have hji:¬(j:Int)<(NL.length:Int):=by omega
     have HYS:=zH (q2c.out (by
      unfold Ve;rw[vR.out,QB.out,q1u.out];have e:NL.take j=NL:=XA (by omega);rw[<-e,Xy.mpr HJ.out];rfl))
     go_wp2_with fail
     go_roundw;case rel=>exact⟨pc+1,by omega,by go_num,HYS,Oe⟩
     case measure=>simp[intOf];omega
    have hji:(j:Int)<(NL.length:Int):=by omega
    obtain⟨bq,rfl,MS,v0⟩:=H8.out.row.at_ hjl;rw[Xq]at v0;obtain⟨n0,n1⟩:=iR.out _ (Xd hjl);have NW:Hid (dh m x pc NL[j]=true->∀t ∈NL.take (j+1),dh m x pc t=true):=zH (fun g=>Jk hjl HJ.out g);have HJF:Hid (dh m x pc NL[j]=false->b=(k:Int)):=zH (fun g=>yw.out (by
     unfold Ve;rw[vR.out,QB.out,q1u.out];have:NL.all (dh m x pc)=false:=by
      rw[List.all_eq_false];exact⟨NL[j],Xd hjl,by rw[g];decide⟩
     rw[this];rfl))
    generalize NL[j]=t at*
    obtain⟨q,rfl⟩:=Xj n0;have hqn:q<n:=by omega
    obtain⟨vq,F5⟩:∃z,kY x ((q:Nat):Int)=z:=⟨_,rfl⟩
    have hqr:=ki.out q hqn;rw[F5]at hqr;have Hu:Hid (dh m x pc (q:Int)=decide (v+vq<=vp)):=zH (by rw[HTK.out,F5]);have HVQ:=zH F5;have qI:Hid (∀W,Below w4.heap.size w4 W->Below w6.heap.size w6 W->(fun w'=>I7 w.heap.size A0 Ab A2 (some ad) A4 k0 k1 k2 k3 k4 m w' (w'.cell? ⟨N,4,none⟩=some (.slice (some ac) n vP)/\w'.cell? ⟨N,7,none⟩=some (.slice (some pA) n vF)/\w'.cell? (ac.add (pc*3))=some (.int .i64 op)/\w'.cell? (zc (ac.add (pc*3)) 1)=some (.int .i64 a)/\w'.cell? (zc (ac.add (pc*3)) 2)=some (.int .i64 bb)/\w'.cell? (pA.add pc)=some (.int .i64 vp)/\w'.cell? (pA.add q)=some (.int .i64 vq)/\w'.cell? (bq.add j)=some (.int .i64 (q:Int)))) W):=zH (fun W hW hW6=>by
     obtain⟨⟨d0,d1,d2,d3,d4,d5,d6⟩,_,Hw,b7'⟩:=HK.out W hW;obtain⟨e0,e1,e2,e3,e4⟩:=HKC.out W hW;have e5:=e4 q hqn;rw[HVQ.out]at e5;exact⟨d0,d1,d2,d3,d4,d5,d6,Hw,b7',e0,e1,e2,e3,e5,(hW6.cell (p:=bq.add j) (by exact zZ MS)).trans v0⟩)
    have GZ:Hid (Below w4.heap.size w4 wr.drew):=zH Oe.out.drew;have FP:Hid (Below w6.heap.size w6 wr.drew):=zH HZ6.out.drew;have Gl:Hid (Below w1.heap.size w1 wr.drew):=zH (HX4.out.trans (Oe.out.mono Qi.out)).drew;have hwr2:=IntWalk.i64_in (v+vq) ⟨by omega,by omega⟩;clear F5 v0;by_cases hcmp:vp<v+vq
    ·have HB:Hid (b=(k:Int)):=zH (HJF.out (by rw[Hu.out,Xf (by omega)]));go_wp2_with fail
     go_region_held3 (fun w'=>I7 w.heap.size A0 Ab A2 (some ad) A4 k0 k1 k2 k3 k4 m w' (w'.cell? ⟨N,4,none⟩=some (.slice (some ac) n vP)/\w'.cell? ⟨N,7,none⟩=some (.slice (some pA) n vF)/\w'.cell? (ac.add (pc*3))=some (.int .i64 op)/\w'.cell? (zc (ac.add (pc*3)) 1)=some (.int .i64 a)/\w'.cell? (zc (ac.add (pc*3)) 2)=some (.int .i64 bb)/\w'.cell? (pA.add pc)=some (.int .i64 vp)/\w'.cell? (pA.add q)=some (.int .i64 vq)/\w'.cell? (bq.add j)=some (.int .i64 (q:Int)))) (first|exact qI.out _ GZ.out FP.out|exact qI.out _ oM.out Hm.out) (first|(go_at_call 15;(with_reducible refine(I4 HI Gl HM QT Cj HV).mono ?_);rintro e w8 ⟨rfl,hb⟩;have aa:=zi Gl hb;have oM:=zi GZ hb;have Hm:=zi FP hb;clear hb))
     rename_i hHeld;clear hHeld;go_wp2_with fail
     go_ret;exact⟨by rw[HB.out];first|rfl|simp,HW.out.trans (aa.out.mono (Xg HZ.out))⟩
    ·have HJ2:=zH (NW.out (by rw[Hu.out,Xi (by omega)]));go_wp2_with fail
     go_region_held3 (fun w'=>I7 w.heap.size A0 Ab A2 (some ad) A4 k0 k1 k2 k3 k4 m w' (w'.cell? ⟨N,4,none⟩=some (.slice (some ac) n vP)/\w'.cell? ⟨N,7,none⟩=some (.slice (some pA) n vF)/\w'.cell? (ac.add (pc*3))=some (.int .i64 op)/\w'.cell? (zc (ac.add (pc*3)) 1)=some (.int .i64 a)/\w'.cell? (zc (ac.add (pc*3)) 2)=some (.int .i64 bb)/\w'.cell? (pA.add pc)=some (.int .i64 vp)/\w'.cell? (pA.add q)=some (.int .i64 vq)/\w'.cell? (bq.add j)=some (.int .i64 (q:Int)))) (first|exact qI.out _ GZ.out FP.out|exact qI.out _ oM.out Hm.out) (first|(go_at_call 15;(with_reducible refine(I4 HI Gl HM QT Cj HV).mono ?_);rintro e w8 ⟨rfl,hb⟩;have aa:=zi Gl hb;have oM:=zi GZ hb;have Hm:=zi FP hb;clear hb))
     rename_i hHeld;clear hHeld;go_wp2_with fail
     go_roundw;case rel=>exact⟨j+1,by omega,by go_num,HJ2,Hm⟩
     case measure=>simp[intOf];omega
theorem jO.now{m:za}{w w':World}{A:Option Addr}{c:Nat}{l:List (List zq)}(h:jO m w A c l)(hb:Below w.heap.size w w'):jO m w' A c l:=⟨jP Vp.keeps h.1 hb,h.2⟩
theorem jO.z4{m:za}{w:World}{A:Option Addr}{c:Nat}{l:List (List zq)}(h:jO m w A c l):ZS 4000 l:=fun S hS=>by
 obtain⟨h1,h2⟩:=h.2.1 S hS;exact⟨by omega,fun s hs=>by have:=h2 s hs;omega⟩
theorem UU{m:za}{l:List (List zq)}{A:Option Addr}{c k:Nat}{h:zh}{w0 w:World}{r:Int}(HI:Hid (zr w0 w0.heap.size h m))(HX:Hid (Below w0.heap.size w0 w))(HM:Hid (zP m))(HT:Hid (jO m w A c l))(HK:Hid (l.length=k))(HR:Hid (Zy m l=r)):
  Calls Tryz.prog 33 #[zv h m,.slice A k c] w fun e w'=>e= .returned (.int .i64 r)/\Below w.heap.size w w':=by
 obtain rfl:=HK.out;have H:=qbn m l A c h w (HI.out.now HX.out) HM.out HT.out;rw[HR.out]at H;exact H
