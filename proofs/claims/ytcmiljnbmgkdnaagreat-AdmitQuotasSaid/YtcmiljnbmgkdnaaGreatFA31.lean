import Derived.Test.YtcmiljnbmgkdnaaGreatFA27
namespace Go.Proofs.YtcmiljnbmgkdnaaGreat
set_option maxRecDepth 100000
set_option linter.unusedVariables false
set_option linter.unusedSimpArgs false
open Go.ChangeShapes Go.WideShapes Go.ChangeAt Go.RowKit
theorem qqj{m:za}{f pc:Int}{st:List (Int×Int)}(h:¬(zD m f pc st).err=0):(zD m f pc st).next=[]:=by
 unfold zD at h⊢
 split
 ·rename_i h1;rw[Xb h1]at h;split
  ·rename_i i hi;rw[hi]at h;dsimp only at h;unfold qx at h⊢
   split
   ·rfl
   ·rename_i h2;rw[Xa h2]at h;split
    ·rfl
    ·rename_i h3;rw[Xa h3]at h;split
     ·rename_i h4;rw[Xb h4]at h;exact absurd rfl h
     ·rfl
  ·rfl
 ·rfl
theorem qlh(p:Addr):p.add 0=p:=by simp[Addr.add]
set_option maxHeartbeats 12800000 in
theorem qmv(m:za)(l:List (List zm))(A:Option Addr)(c:Nat)(h:zg)(w:World)(H:zi w w.heap.size h m)(hm:zK m)(hT:qU m w A c l):
  Calls Tryz.prog 26 #[zk h m,.slice A l.length c] w fun e w'=>e= .returned (.int .i64 (jL m l))∧Below w.heap.size w w':=by
 obtain⟨hM,hMZ,hLL,hFD⟩:=hT;have HW:=zH (jz (w:=w) (h:=h) (m:=m));have HBX:=zH (zX w h m);have HZ:Hid (w.heap.size<(w.alloc (zo h m)).heap.size):=zH (by simp);have HI:=zH (H.now HW.out);have HM:=zH hm;have HMZ:=zH hMZ;have HFD:=zH hFD;have hle:=H.methods.le;have hcap:=H.methods.cap;have hl1:=hM.le;have hl2:=hM.cap;have HLL:=zH hLL;have HM0:=zH (qX RowAt.keeps hM HW.out);rw[hLL]at hl1;rw[hLL];obtain⟨b,hb⟩:∃b,jL m l=b:=⟨_,rfl⟩
 have HE:=zH hb;rw[hb];clear H hM hb hm hMZ hFD hLL;go_enter Tryz.func26,Tryz.ntmps26;go_upto_region 1 with fail
 generalize w.alloc (zo h m)=w1 at*
 obtain⟨q0,q1,q2,q3,q4,q5,q6⟩:=HBX.out;go_wp2_with fail
 clear q0 q1 q2 q3 q4 q5 q6;go_loopw [5] (fun i wr=>∃k:Nat,k≤m.methods.length∧i= .int .i64 k∧Hid (∀g,g<k→ZO m l g=false)∧Hid (Below w1.heap.size w1 wr)) (fun i _=>m.methods.length - (intOf i).toNat)
 case atStart=>exact⟨0,Xl _,rfl,zH (fun f hf=>by omega),zH (zb _ _)⟩
 case round=>
  obtain⟨k,hk,rfl,HA,HX⟩:=hrel;obtain⟨q0,q1,q2,q3,q4,q5,q6⟩:=HBX.out.keep HX.out HZ.out;by_cases hlt:k<m.methods.length;rotate_left
  ·have hki:¬(k:Int)<(m.methods.length:Int):=by omega
   have HB:Hid (b= -1):=zH (by rw[←HE.out];exact qas (fun g hg=>HA.out g (by omega)));go_wp2_with fail
   go_ret;exact⟨by rw[HB.out];first|rfl|simp,HW.out.trans (HX.out.mono (Xk HZ.out))⟩
  have hki:(k:Int)<(m.methods.length:Int):=by omega
  have hkl:k<l.length:=by rw[HLL.out];exact hlt
  obtain⟨adM,rfl,habM,A1,c1,r0,hsr⟩:=HM0.out.row.at_ hkl;obtain⟨ad,hx,eA,hab,hin,hcm⟩:=jJ HI.out hlt;obtain⟨A0,Ab,A2,A3,A4,k0,k1,k2,k3,k4⟩:=h;dsimp only at eA q0 q1 q2 q3 q4 q5 q6 hle hcap;subst eA;have HXM:Hid (m.methods[k] ∈m.methods):=zH (Xd hlt);have hmN:zu m (k:Int)=m.methods[k]:=by unfold zu;rw[Xe,Xc hlt];rfl
  have hbad:ZO m l k= !Yh m k m.methods[k] l[k]:=by unfold ZO;rw[hmN,Xc hkl];rfl
  have HBD:=zH hbad;have HFS:=zH (HFD.out k l[k] (Xc hkl));have HMN:=zH hmN;clear hbad hmN;generalize m.methods[k]=x at*
  generalize l[k]=S at*
  obtain⟨c0,c1',c2,c3,c4,c5,c6,c7⟩:=hcm.keep HX.out (by rw[zp];exact hab);have hcp:x.code.length=x.phi.length∧0<x.code.length:=by have:=(HM.out.method HXM.out);exact⟨this.ph.symm,this.cp⟩
  obtain⟨n,hn⟩:∃n,x.code.length=n:=⟨_,rfl⟩
  have HNN:=zH hn;have hpn:x.phi.length=n:=by omega
  have HPN:=zH hpn;have hn0:0<n:=by omega
  have hcl:=hin.code.le;have hcc:=hin.code.cap;have hpl:=hin.phi.le;have hpc:=hin.phi.cap;rw[hn]at c4 hcl;rw[hpn]at c7 hpl;have HCR:=zH hin.code.row;have HPR:=zH hin.phi.row;obtain⟨xA0,xA1,xA4,xA7,kx0,kx1,kx4,kx7⟩:=hx;dsimp only at c0 c1' c4 c7 hcl hcc hpl hpc HCR HPR;obtain⟨pA,rfl,hpb,hpz⟩:=HPR.out.at_ (show 0<x.phi.length by omega);obtain⟨ac,rfl,hab2,hcz⟩:=HCR.out.at_ (show 0<x.code.length by omega);have HPH:Hid (∀i:Nat,i<n→w1.cell? (pA.add i)=some (.int .i64 (vn x (i:Int)))):=zH (fun i hi=>by
   obtain⟨pA',e,_,pi⟩:=HPR.out.at_ (show i<x.phi.length by omega);injection e with e;subst e;rw[Xq]at pi;unfold vn;rw[Xe,Xc (show i<x.phi.length by omega)];exact pi)
  have hxs:=HX.out.size;have HPT:Hid (∀i:Nat,i<n→0≤vn x (i:Int)∧vn x (i:Int)≤4096):=zH (fun i hi=>by
   unfold vn;rw[Xe,Xc (by omega)];exact(HM.out.method HXM.out).fits.pt _ (Xd _))
  have hpot:=(HM.out.method HXM.out).fits.p1;have HX3:Hid (Below w1.heap.size w1 (wr.alloc (.cells #[.slice xA0 x.args.length kx0,.slice xA1 x.locals.length kx1,.int .i64 x.ret.1,.int .i64 x.ret.2,.slice (some ac) n kx4,.int .i64 x.depth,.int .i64 x.pot,.slice (some pA) n kx7] 53))):=zH (HX.out.alloc hxs _);have HXB:=zH (ze.new wr [.slice xA0 x.args.length kx0,.slice xA1 x.locals.length kx1,.int .i64 x.ret.1,.int .i64 x.ret.2,.slice (some ac) n kx4,.int .i64 x.depth,.int .i64 x.pot,.slice (some pA) n kx7] 53);clear hpz hcz;clear hcp hin hcm hn hpn HPR;go_upto_region 5 with fail
  have HXB:Hid (ze (wr.alloc (.cells #[.slice xA0 x.args.length kx0,.slice xA1 x.locals.length kx1,.int .i64 x.ret.1,.int .i64 x.ret.2,.slice (some ac) n kx4,.int .i64 x.depth,.int .i64 x.pot,.slice (some pA) n kx7] 53)) wr.heap.size [.slice xA0 x.args.length kx0,.slice xA1 x.locals.length kx1,.int .i64 x.ret.1,.int .i64 x.ret.2,.slice (some ac) n kx4,.int .i64 x.depth,.int .i64 x.pot,.slice (some pA) n kx7] 53):=HXB;obtain⟨w3,hw3⟩:∃z,wr.alloc (.cells #[.slice xA0 x.args.length kx0,.slice xA1 x.locals.length kx1,.int .i64 x.ret.1,.int .i64 x.ret.2,.slice (some ac) n kx4,.int .i64 x.depth,.int .i64 x.pot,.slice (some pA) n kx7] 53)=z:=⟨_,rfl⟩
  rw[hw3]at HX3 HXB⊢
  have HN3:Hid (wr.heap.size<w3.heap.size):=zH (by rw[←hw3];simp);clear hw3;obtain⟨N,hN⟩:∃z,wr.heap.size=z:=⟨_,rfl⟩
  rw[hN]at HXB HN3⊢
  clear hN;have b6:=HXB.out.cells 6 _ rfl;have b7:=HXB.out.cells 7 _ rfl;have p0:=(HX3.out.cell (p:=pA.add 0) (by rw[zp];exact hpb)).trans (HPH.out 0 hn0);rw[show pA.add 0=pA from qlh pA]at p0;obtain⟨ph0,hph0⟩:∃z,vn x ((0:Nat):Int)=z:=⟨_,rfl⟩
  rw[hph0]at p0;have HP0:=zH hph0;clear hph0 q0 q1 q2 q3 q4 q5 q6 c0 c1' c2 c3 c4 c5 c6 c7;by_cases h0:ph0>x.pot
  ·have HB:Hid (b=(k:Int)):=zH (by
    rw[←HE.out];refine q5w hlt HA.out ?_;rw[HBD.out];have e:Yh m k x S=false:=by
     unfold Yh;rw[Xf (by have:=HP0.out;simp at this;omega),Bool.false_and]
    rw[e];rfl)
   go_wp2_with fail
   go_region
   go_wp2_with fail
   go_ret;exact⟨by rw[HB.out];first|rfl|simp,HW.out.trans (HX3.out.mono (Xk HZ.out)).drew⟩
  go_wp2_with fail
  go_region
  have HX4:=zH HX3.out.drew;have HXB4:Hid (ze w3.drew N [.slice xA0 x.args.length kx0,.slice xA1 x.locals.length kx1,.int .i64 x.ret.1,.int .i64 x.ret.2,.slice (some ac) n kx4,.int .i64 x.depth,.int .i64 x.pot,.slice (some pA) n kx7] 53):=HXB;have HN4:Hid (N<w3.drew.heap.size):=HN3;have hxp:vn x 0≤x.pot:=by have:=HP0.out;simp at this;omega
  have HPX:=zH hxp;clear HXB HX3 HX p0 b6 b7 hxp HN3;generalize w3.drew=w4 at*
  have HSR:=zH hsr;have hS1:=hsr.le;have hS2:=hsr.cap;have hSl:S.length=n:=by rw[HFS.out.grow.len,HMN.out,HNN.out]
  rw[hSl]at hS1 r0;have HSL:=zH hSl;have HS4:=zH HX4.out.size;have HK:Hid (∀W,Below w4.heap.size w4 W→(fun w'=>w'.cell? ⟨w.heap.size,0,none⟩=some (.slice A0 m.classes.length k0)∧w'.cell? ⟨w.heap.size,1,none⟩=some (.slice Ab m.statics.length k1)∧w'.cell? ⟨w.heap.size,2,none⟩=some (.slice A2 m.ints.length k2)∧w'.cell? ⟨w.heap.size,3,none⟩=some (.slice (some ad) m.methods.length k3)∧w'.cell? ⟨w.heap.size,4,none⟩=some (.slice A4 m.entries.length k4)∧w'.cell? ⟨w.heap.size,5,none⟩=some (.int .i64 m.stack)∧w'.cell? ⟨w.heap.size,6,none⟩=some (.int .i64 m.heap)) W∧W.cell? (adM.add k)=some (.slice A1 n c1)∧W.cell? ⟨N,4,none⟩=some (.slice (some ac) n kx4)∧W.cell? ⟨N,7,none⟩=some (.slice (some pA) n kx7)):=zH (fun W hW=>by
   have hW1:=HX4.out.trans (hW.mono HS4.out);obtain⟨d0,d1,d2,d3,d4,d5,d6⟩:=HBX.out.keep hW1 HZ.out;rw[Xq]at r0;exact⟨⟨d0,d1,d2,d3,d4,d5,d6⟩,(hW1.cell (p:=adM.add k) (by rw[zp];exact habM)).trans r0,(hW.cell (p:=⟨N,4,none⟩) HN4.out).trans (HXB4.out.cells 4 _ rfl),(hW.cell (p:=⟨N,7,none⟩) HN4.out).trans (HXB4.out.cells 7 _ rfl)⟩)
  have HBT:Hid ((∀pc,pc<n→ZA m k x S pc=true)→∀g,g<k+1→ZO m l g=false):=zH (fun hp g hg=>by
   rcases Xj g k with q|q
   ·exact HA.out g q
   ·obtain rfl:g=k:=by omega
    rw[HBD.out,qro HPX.out (fun pc hpc=>hp pc (by rw[←HNN.out];exact hpc))];rfl)
  have HBF:Hid (∀pc,pc<n→ZA m k x S pc=false→b=(k:Int)):=zH (fun pc hpc hf=>by
   rw[←HE.out];refine q5w hlt HA.out ?_;rw[HBD.out,quf (by rw[HNN.out];exact hpc) hf];rfl)
  clear hsr r0 hSl HA HBD HE;have HY0:Hid (Below w4.heap.size w4 w4):=zH (zb _ _);go_wp2_with fail
  go_loopw [7] (fun i wr=>∃pc:Nat,pc≤n∧i= .int .i64 pc∧Hid (∀p,p<pc→ZA m k x S p=true)∧Hid (Below w4.heap.size w4 wr)) (fun i _=>n - (intOf i).toNat)
  case atStart=>exact⟨0,Xl _,rfl,zH (fun p hp=>by omega),HY0⟩
  case round=>
   obtain⟨pc,hpc,rfl,HP,HY⟩:=hrel;obtain⟨⟨q0,q1,q2,q3,q4,q5,q6⟩,rM,b4,b7⟩:=HK.out _ HY.out;by_cases hpn:pc<n;rotate_left
   ·have hpi:¬(pc:Int)<(n:Int):=by omega
    have HNX:=zH (HBT.out (fun p hp=>HP.out p (by omega)));have HXX:=zH (HX4.out.trans (HY.out.mono HS4.out));go_wp2_with fail
    go_roundw;case rel=>exact⟨k+1,by omega,by go_num,HNX,HXX⟩
    case measure=>simp[intOf];omega
   have hpi:(pc:Int)<(n:Int):=by omega
   obtain⟨adS,eS,habS,u0,Ast,cst,u1,hu⟩:=HSR.out.row.at_ (show pc<S.length by rw[HSL.out];exact hpn);subst eS;have hNp:zr S (pc:Int)=S[pc]'(by rw[HSL.out];exact hpn):=Qw (by rw[HSL.out];exact hpn)
   have hst1:(S[pc]'(by rw[HSL.out];exact hpn)).stack.length≤8:=HFS.out.grow.small _ (Xd _);generalize S[pc]'(by rw[HSL.out];exact hpn)=s at*
   have HNP:=zH hNp;have HU:=zH hu;have HPF:=zH (HBF.out pc hpn);have HPX2:Hid (ZA m k x S pc=true→∀p,p<pc+1→ZA m k x S p=true):=zH (fun g p hp=>by
    rcases Xj p pc with q|q
    ·exact HP.out p q
    ·obtain rfl:p=pc:=by omega
     exact g)
   have HKP:Hid (∀W,Below w4.heap.size w4 W→W.cell? (adS.add (pc*2))=some (.bool s.seen)∧W.cell? (zc (adS.add (pc*2)) 1)=some (.slice Ast s.stack.length cst)):=zH (fun W hW=>by
    have hW1:=HX4.out.trans (hW.mono HS4.out);exact⟨(hW1.cell (p:=adS.add (pc*2)) (by rw[zp];exact habS)).trans u0,(hW1.cell (p:=zc (adS.add (pc*2)) 1) (by show(adS.add _).block<_;rw[zp];exact habS)).trans u1⟩)
   clear u0 u1 hu hNp;obtain⟨u0,u1⟩:=HKP.out _ HY.out;by_cases hse:s.seen=true;rotate_left
   ·have hse':s.seen=false:=by simpa using hse
    have HYS:=zH (HPX2.out (by unfold ZA;rw[HNP.out,hse'];rfl));go_wp2_with fail
    go_roundw;case rel=>exact⟨pc+1,by omega,by go_num,HYS,HY⟩
    case measure=>simp[intOf];omega
   have HSE:=zH hse;obtain⟨⟨L,NL,er⟩,hrs⟩:∃r,zD m (k:Int) (pc:Int) s.stack=r:=⟨_,rfl⟩
   have HRS:=zH hrs;have hnx:vR m k S pc=NL:=by unfold vR;rw[HNP.out,hrs]
   have HNXT:=zH hnx;have HXD:Hid (Below w1.heap.size w1 wr.drew):=zH (HX4.out.trans (HY.out.mono HS4.out)).drew;have HYD:Hid (Below w4.heap.size w4 wr.drew):=zH HY.out.drew;have HSD:=zH (slcDr zh.keeps (qX zh.keeps HU.out (HX4.out.trans (HY.out.mono HS4.out))));have hst4:s.stack.length≤4000:=Xg hst1 (by decide);have HKA:Hid (∀W,Below w4.heap.size w4 W→(fun w'=>w'.cell? ⟨w.heap.size,0,none⟩=some (.slice A0 m.classes.length k0)∧w'.cell? ⟨w.heap.size,1,none⟩=some (.slice Ab m.statics.length k1)∧w'.cell? ⟨w.heap.size,2,none⟩=some (.slice A2 m.ints.length k2)∧w'.cell? ⟨w.heap.size,3,none⟩=some (.slice (some ad) m.methods.length k3)∧w'.cell? ⟨w.heap.size,4,none⟩=some (.slice A4 m.entries.length k4)∧w'.cell? ⟨w.heap.size,5,none⟩=some (.int .i64 m.stack)∧w'.cell? ⟨w.heap.size,6,none⟩=some (.int .i64 m.heap)∧w'.cell? (adM.add k)=some (.slice (some adS) n c1)∧w'.cell? (zc (adS.add (pc*2)) 1)=some (.slice Ast s.stack.length cst)) W):=zH (fun W hW=>by
    obtain⟨⟨d0,d1,d2,d3,d4,d5,d6⟩,rM',_,_⟩:=HK.out W hW;exact⟨d0,d1,d2,d3,d4,d5,d6,rM',(HKP.out W hW).2⟩)
   clear hrs hnx q0 q1 q2 q3 q4 q5 q6;obtain⟨⟨q0,q1,q2,q3,q4,q5,q6⟩,rM,b4,b7⟩:=HK.out _ HY.out;go_wp2_with fail
   clear u0 u1 q0 q1 q2 q3 q4 q5 q6 rM b4 b7;go_region_held3 (fun w'=>w'.cell? ⟨w.heap.size,0,none⟩=some (.slice A0 m.classes.length k0)∧w'.cell? ⟨w.heap.size,1,none⟩=some (.slice Ab m.statics.length k1)∧w'.cell? ⟨w.heap.size,2,none⟩=some (.slice A2 m.ints.length k2)∧w'.cell? ⟨w.heap.size,3,none⟩=some (.slice (some ad) m.methods.length k3)∧w'.cell? ⟨w.heap.size,4,none⟩=some (.slice A4 m.entries.length k4)∧w'.cell? ⟨w.heap.size,5,none⟩=some (.int .i64 m.stack)∧w'.cell? ⟨w.heap.size,6,none⟩=some (.int .i64 m.heap)∧w'.cell? (adM.add k)=some (.slice (some adS) n c1)∧w'.cell? (zc (adS.add (pc*2)) 1)=some (.slice Ast s.stack.length cst)) (first|exact HKA.out _ HYD.out|exact HKA.out _ HY6.out) (first|(go_at_call 57;(with_reducible refine(qce HI HXD HM (zH rfl) HSD hst4 HRS).mono ?_);rintro e w6 ⟨A7,c7,A8,c8,rfl,hs7,hs8,hb⟩;have H8:=zH hs8;have HX6:=zl HXD hb;have HY6:=zl HYD hb;clear hs7 hs8 hb))
   rename_i hHeld;clear hHeld;have hm1:=H8.out.le;have hm2:=H8.out.cap;have hpx:pc<x.code.length:=by rw[HNN.out];exact hpn
   obtain⟨⟨op,a,bb⟩,hi⟩:∃i,x.code[pc]? =some i:=⟨_,Xc hpx⟩
   have him:=Xo hi;have HIN:Hid (∀t ∈NL,0≤t∧t<(n:Int)):=zH (fun t ht=>by
    by_cases her:er=0
    ·have hgx:m.methods[k]? =some x:=by
      have e1:=HMN.out;unfold zu at e1;rw[Xe,Xc hlt,XY]at e1;rw[Xc hlt,e1]
     have hxm:=HM.out.method HXM.out;have e1:=YD (st:=s.stack) hgx hi;rw[HRS.out]at e1;have h1:=q0m (m:=m) (st:=s.stack) (F:=0) (hxm.fits.ct _ him) (hxm.co _ him) (by rw[←e1];exact her);rw[←e1]at h1;have:=h1 t ht;rw[HNN.out]at this;exact this
    ·have h1:=qqj (m:=m) (f:=(k:Int)) (pc:=(pc:Int)) (st:=s.stack) (by rw[HRS.out];exact her);rw[HRS.out]at h1;dsimp only at h1;rw[h1]at ht;cases ht)
   obtain⟨ac',eC,hac,i0,i1,i2⟩:=HCR.out.at_ hpx;injection eC with eC;subst eC;have hix:x.code[pc]=(op,a,bb):=by
    have:=hi;rw[Xc hpx]at this;exact Option.some.inj this
   rw[hix]at i0 i1 i2;obtain⟨v,hv⟩:∃v,kh m op a bb=v:=⟨_,rfl⟩
   have HV:=zH hv;have HIC:=zH him;have hvs:=q9h HM.out HXM.out him;rw[hv]at hvs;have hcp:kN m x pc=v:=by unfold kN;rw[hi];exact hv
   have HCP:=zH hcp;obtain⟨vp,hvp⟩:∃z,vn x ((pc:Nat):Int)=z:=⟨_,rfl⟩
   have HVP:=zH hvp;have hpr:=HPT.out pc hpn;rw[hvp]at hpr;have HTK:Hid (∀t,QM m x pc t=decide (v+vn x t≤vp)):=zH (fun t=>by unfold QM;rw[HCP.out,HVP.out]);have HKC:Hid (∀W,Below w4.heap.size w4 W→W.cell? (ac.add (pc*3))=some (.int .i64 op)∧W.cell? (zc (ac.add (pc*3)) 1)=some (.int .i64 a)∧W.cell? (zc (ac.add (pc*3)) 2)=some (.int .i64 bb)∧W.cell? (pA.add pc)=some (.int .i64 vp)∧∀q:Nat,q<n→W.cell? (pA.add q)=some (.int .i64 (vn x (q:Int)))):=zH (fun W hW=>by
    have hW1:=HX4.out.trans (hW.mono HS4.out);refine⟨(hW1.cell (p:=ac.add (pc*3)) (by rw[zp];exact hac)).trans i0,(hW1.cell (p:=zc (ac.add (pc*3)) 1) (by show(ac.add _).block<_;rw[zp];exact hac)).trans i1,(hW1.cell (p:=zc (ac.add (pc*3)) 2) (by show(ac.add _).block<_;rw[zp];exact hac)).trans i2,?_,fun q hq=>(hW1.cell (p:=pA.add q) (by rw[zp];exact hpb)).trans (HPH.out q hq)⟩;rw[←HVP.out];exact(hW1.cell (p:=pA.add pc) (by rw[zp];exact hpb)).trans (HPH.out pc hpn))
   clear i0 i1 i2 hi him hix hv hcp hvp hpx;go_wp2_with fail
   go_loopw [11] (fun i wi=>∃j:Nat,j≤NL.length∧i= .int .i64 j∧Hid (∀t ∈NL.take j,QM m x pc t=true)∧Hid (Below w6.heap.size w6 wi)) (fun i _=>NL.length - (intOf i).toNat)
   case atStart=>exact⟨0,Xl _,rfl,zH (by simp),zH (zb _ _)⟩
   case round=>
    obtain⟨j,hj,rfl,HJ,HZ6⟩:=hrel;have HYI:=zH (HY6.out.trans (HZ6.out.mono HY6.out.size));by_cases hjl:j<NL.length;rotate_left
    ·have hji:¬(j:Int)<(NL.length:Int):=by omega
     have HYS:=zH (HPX2.out (by
      unfold ZA;rw[HNP.out,HSE.out,HNXT.out];have e:NL.take j=NL:=XH (by omega);rw[←e,Xy.mpr HJ.out];rfl))
     go_wp2_with fail
     go_roundw;case rel=>exact⟨pc+1,by omega,by go_num,HYS,HYI⟩
     case measure=>simp[intOf];omega
    have hji:(j:Int)<(NL.length:Int):=by omega
    obtain⟨adN,rfl,habN,v0⟩:=H8.out.row.at_ hjl;rw[Xq]at v0;obtain⟨n0,n1⟩:=HIN.out _ (Xd hjl);have HJT:Hid (QM m x pc NL[j]=true→∀t ∈NL.take (j+1),QM m x pc t=true):=zH (fun g=>jT hjl HJ.out g);have HJF:Hid (QM m x pc NL[j]=false→b=(k:Int)):=zH (fun g=>HPF.out (by
     unfold ZA;rw[HNP.out,HSE.out,HNXT.out];have:NL.all (QM m x pc)=false:=by
      rw[List.all_eq_false];exact⟨NL[j],Xd hjl,by rw[g];decide⟩
     rw[this];rfl))
    generalize NL[j]=t at*
    obtain⟨q,rfl⟩:=Xm n0;have hqn:q<n:=by omega
    obtain⟨vq,hvq⟩:∃z,vn x ((q:Nat):Int)=z:=⟨_,rfl⟩
    have hqr:=HPT.out q hqn;rw[hvq]at hqr;have HTQ:Hid (QM m x pc (q:Int)=decide (v+vq≤vp)):=zH (by rw[HTK.out,hvq]);have HVQ:=zH hvq;have HKS:Hid (∀W,Below w4.heap.size w4 W→Below w6.heap.size w6 W→(fun w'=>w'.cell? ⟨w.heap.size,0,none⟩=some (.slice A0 m.classes.length k0)∧w'.cell? ⟨w.heap.size,1,none⟩=some (.slice Ab m.statics.length k1)∧w'.cell? ⟨w.heap.size,2,none⟩=some (.slice A2 m.ints.length k2)∧w'.cell? ⟨w.heap.size,3,none⟩=some (.slice (some ad) m.methods.length k3)∧w'.cell? ⟨w.heap.size,4,none⟩=some (.slice A4 m.entries.length k4)∧w'.cell? ⟨w.heap.size,5,none⟩=some (.int .i64 m.stack)∧w'.cell? ⟨w.heap.size,6,none⟩=some (.int .i64 m.heap)∧w'.cell? ⟨N,4,none⟩=some (.slice (some ac) n kx4)∧w'.cell? ⟨N,7,none⟩=some (.slice (some pA) n kx7)∧w'.cell? (ac.add (pc*3))=some (.int .i64 op)∧w'.cell? (zc (ac.add (pc*3)) 1)=some (.int .i64 a)∧w'.cell? (zc (ac.add (pc*3)) 2)=some (.int .i64 bb)∧w'.cell? (pA.add pc)=some (.int .i64 vp)∧w'.cell? (pA.add q)=some (.int .i64 vq)∧w'.cell? (adN.add j)=some (.int .i64 (q:Int))) W):=zH (fun W hW hW6=>by
     obtain⟨⟨d0,d1,d2,d3,d4,d5,d6⟩,_,b4',b7'⟩:=HK.out W hW;obtain⟨e0,e1,e2,e3,e4⟩:=HKC.out W hW;have e5:=e4 q hqn;rw[HVQ.out]at e5;exact⟨d0,d1,d2,d3,d4,d5,d6,b4',b7',e0,e1,e2,e3,e5,(hW6.cell (p:=adN.add j) (by rw[zp];exact habN)).trans v0⟩)
    have HYD2:Hid (Below w4.heap.size w4 wr.drew):=zH HYI.out.drew;have HZD2:Hid (Below w6.heap.size w6 wr.drew):=zH HZ6.out.drew;have HXD2:Hid (Below w1.heap.size w1 wr.drew):=zH (HX4.out.trans (HYI.out.mono HS4.out)).drew;have hwr2:=IntWalk.i64_in (v+vq) ⟨by omega,by omega⟩;clear hvq v0;by_cases hcmp:vp<v+vq
    ·have HB:Hid (b=(k:Int)):=zH (HJF.out (by rw[HTQ.out,Xf (by omega)]));go_wp2_with fail
     go_region_held3 (fun w'=>w'.cell? ⟨w.heap.size,0,none⟩=some (.slice A0 m.classes.length k0)∧w'.cell? ⟨w.heap.size,1,none⟩=some (.slice Ab m.statics.length k1)∧w'.cell? ⟨w.heap.size,2,none⟩=some (.slice A2 m.ints.length k2)∧w'.cell? ⟨w.heap.size,3,none⟩=some (.slice (some ad) m.methods.length k3)∧w'.cell? ⟨w.heap.size,4,none⟩=some (.slice A4 m.entries.length k4)∧w'.cell? ⟨w.heap.size,5,none⟩=some (.int .i64 m.stack)∧w'.cell? ⟨w.heap.size,6,none⟩=some (.int .i64 m.heap)∧w'.cell? ⟨N,4,none⟩=some (.slice (some ac) n kx4)∧w'.cell? ⟨N,7,none⟩=some (.slice (some pA) n kx7)∧w'.cell? (ac.add (pc*3))=some (.int .i64 op)∧w'.cell? (zc (ac.add (pc*3)) 1)=some (.int .i64 a)∧w'.cell? (zc (ac.add (pc*3)) 2)=some (.int .i64 bb)∧w'.cell? (pA.add pc)=some (.int .i64 vp)∧w'.cell? (pA.add q)=some (.int .i64 vq)∧w'.cell? (adN.add j)=some (.int .i64 (q:Int))) (first|exact HKS.out _ HYD2.out HZD2.out|exact HKS.out _ HY8.out HZ8.out) (first|(go_at_call 20;(with_reducible refine(q3z HI HXD2 HM HXM HIC HV).mono ?_);rintro e w8 ⟨rfl,hb⟩;have HX8:=zl HXD2 hb;have HY8:=zl HYD2 hb;have HZ8:=zl HZD2 hb;clear hb))
     rename_i hHeld;clear hHeld;go_wp2_with fail
     go_ret;exact⟨by rw[HB.out];first|rfl|simp,HW.out.trans (HX8.out.mono (Xk HZ.out))⟩
    ·have HJ2:=zH (HJT.out (by rw[HTQ.out,Xh (by omega)]));go_wp2_with fail
     go_region_held3 (fun w'=>w'.cell? ⟨w.heap.size,0,none⟩=some (.slice A0 m.classes.length k0)∧w'.cell? ⟨w.heap.size,1,none⟩=some (.slice Ab m.statics.length k1)∧w'.cell? ⟨w.heap.size,2,none⟩=some (.slice A2 m.ints.length k2)∧w'.cell? ⟨w.heap.size,3,none⟩=some (.slice (some ad) m.methods.length k3)∧w'.cell? ⟨w.heap.size,4,none⟩=some (.slice A4 m.entries.length k4)∧w'.cell? ⟨w.heap.size,5,none⟩=some (.int .i64 m.stack)∧w'.cell? ⟨w.heap.size,6,none⟩=some (.int .i64 m.heap)∧w'.cell? ⟨N,4,none⟩=some (.slice (some ac) n kx4)∧w'.cell? ⟨N,7,none⟩=some (.slice (some pA) n kx7)∧w'.cell? (ac.add (pc*3))=some (.int .i64 op)∧w'.cell? (zc (ac.add (pc*3)) 1)=some (.int .i64 a)∧w'.cell? (zc (ac.add (pc*3)) 2)=some (.int .i64 bb)∧w'.cell? (pA.add pc)=some (.int .i64 vp)∧w'.cell? (pA.add q)=some (.int .i64 vq)∧w'.cell? (adN.add j)=some (.int .i64 (q:Int))) (first|exact HKS.out _ HYD2.out HZD2.out|exact HKS.out _ HY8.out HZ8.out) (first|(go_at_call 20;(with_reducible refine(q3z HI HXD2 HM HXM HIC HV).mono ?_);rintro e w8 ⟨rfl,hb⟩;have HX8:=zl HXD2 hb;have HY8:=zl HYD2 hb;have HZ8:=zl HZD2 hb;clear hb))
     rename_i hHeld;clear hHeld;go_wp2_with fail
     go_roundw;case rel=>exact⟨j+1,by omega,by go_num,HJ2,HZ8⟩
     case measure=>simp[intOf];omega
theorem qU.now{m:za}{w w':World}{A:Option Addr}{c:Nat}{l:List (List zm)}(h:qU m w A c l)(hb:Below w.heap.size w w'):qU m w' A c l:=⟨qX RowAt.keeps h.1 hb,h.2⟩
theorem qU.z4{m:za}{w:World}{A:Option Addr}{c:Nat}{l:List (List zm)}(h:qU m w A c l):vK 4000 l:=fun S hS=>by
 obtain⟨h1,h2⟩:=h.2.1 S hS;exact⟨by omega,fun s hs=>by have:=h2 s hs;omega⟩
theorem qcg{m:za}{l:List (List zm)}{A:Option Addr}{c k:Nat}{h:zg}{w0 w:World}{r:Int}(HI:Hid (zi w0 w0.heap.size h m))(HX:Hid (Below w0.heap.size w0 w))(HM:Hid (zK m))(HT:Hid (qU m w A c l))(HK:Hid (l.length=k))(HR:Hid (jL m l=r)):
  Calls Tryz.prog 26 #[zk h m,.slice A k c] w fun e w'=>e= .returned (.int .i64 r)∧Below w.heap.size w w':=by
 obtain rfl:=HK.out;have H:=qmv m l A c h w (HI.out.now HX.out) HM.out HT.out;rw[HR.out]at H;exact H
end Go.Proofs.YtcmiljnbmgkdnaaGreat
