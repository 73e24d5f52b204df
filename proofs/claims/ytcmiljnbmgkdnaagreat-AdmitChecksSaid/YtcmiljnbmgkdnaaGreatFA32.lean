import Derived.Test.YtcmiljnbmgkdnaaGreatFA27
namespace Go.Proofs.YtcmiljnbmgkdnaaGreat
set_option maxRecDepth 100000
set_option linter.unusedVariables false
set_option linter.unusedSimpArgs false
open Go.ChangeShapes Go.WideShapes Go.ChangeAt Go.RowKit
def q58(m:za)(f:Int)(w:World)(e:Ending)(w':World):Prop:=∃ok A c S,e= .returned (.tuple #[.slice A (S:List zm).length c,.bool ok])∧Below w.heap.size w w'∧
 (ok=true→∃g X,A=some ⟨g,0,none⟩∧S=X.map zj.shp∧c=S.length∧w.heap.size≤g∧qr w' g X∧VG m f S∧kA m f S)∧
 (ok=false→∀R,jx m f R=false)
theorem q3i{m:za}{f:Int}{w w':World}(hb:Below w.heap.size w w')(h:∀R,jx m f R=false):q58 m f w (.returned (.tuple #[.slice none 0 0,.bool false])) w':=⟨false,none,0,[],rfl,hb,(fun h=>by cases h),fun _=>h⟩
theorem qb4(n:Nat):(⟨true,none,0,[]⟩::List.replicate n (⟨false,none,0,[]⟩:zj)).map zj.shp=⟨true,[]⟩::List.replicate n (⟨false,[]⟩:zm):=by simp[zj.shp]
theorem qgk{m:za}{f:Nat}{x:zf}{n:Nat}(hx:zu m (f:Int)=x)(hn:x.code.length=n+1):Zc m f ((⟨true,none,0,[]⟩::List.replicate n (⟨false,none,0,[]⟩:zj)).map zj.shp):=by
 have h:=qjq (m:=m) (f:=f) (n:=n) hx hn;rw[qb4]at h⊢
 exact Zc.start h (by rw[hx];exact hn)
theorem qgo{m:za}{f:Int}{S:List zm}(h:Zc m f S)(h0:0<S.length)(hd:∀pc:Nat,pc<S.length→ve m f S (pc:Int)=true):VG m f S∧kA m f S:=
 ⟨⟨h.grow,fun pc hpc hs=>by
  obtain⟨e,g⟩:=Vm.mp (hd pc hpc) hs;exact⟨e,fun n hn=>⟨(g n hn).1,(g n hn).2.1⟩⟩⟩,⟨h.low.done h0 hd,fun R hR=>h.low.over hR,h.low.small,fun s hs=>⟨h.nul s hs,h.dry s hs⟩⟩⟩
set_option maxHeartbeats 12800000 in
theorem qfi(m:za)(x:zf)(f:Nat)(h:zg)(w:World)(H:zi w w.heap.size h m)(hm:zK m)(hx:m.methods[f]? =some x):
  Calls Tryz.prog 56 #[zk h m,.int .i64 f] w (q58 m f w):=by
 obtain⟨tyi,hi,hz0,hz1,hz2⟩:=qQ q9g;have HW:=zH (jz (w:=w) (h:=h) (m:=m));have HBX:=zH (zX w h m);have HZ:Hid (w.heap.size<(w.alloc (zo h m)).heap.size):=zH (by simp);have HI:=zH (H.now HW.out);have HM:=zH hm;have HG:=zH hx;have hle:=H.methods.le;have hcap:=H.methods.cap;have hcl:m.classes.length≤1000:=by have:=hm.fits.cl;omega
 have hxm:=hm.method (Xo hx);have hxl:x.code.length≤1000:=by have:=hxm.fits.cl;omega
 have hxp:=hxm.cp;have hfl:=(Xw.mp hx).1;have hfe:=(Xw.mp hx).2;obtain⟨ad,A4c,j4,ea,hab,hc4⟩:=qbd HI.out hfl;rw[hfe]at hc4;obtain⟨A0,Ab,A2,A3,A4,k0,k1,k2,k3,k4⟩:=h;dsimp only at ea hle hcap;subst ea;have hcN:zu m (f:Int)=x:=by unfold zu;rw[Xe,hx];rfl
 have HCN:=zH hcN;clear H hm hx hxm hfe hcN;go_enter Tryz.func56,Tryz.ntmps56;go_upto_region 1 with fail
 change Code.wp _ _ _ _ (w.alloc (zo ⟨A0,Ab,A2,some ad,A4,k0,k1,k2,k3,k4⟩ m));generalize w.alloc (zo ⟨A0,Ab,A2,some ad,A4,k0,k1,k2,k3,k4⟩ m)=w1 at*
 obtain⟨q0,q1,q2,q3,q4,q5,q6⟩:=HBX.out;have hie:((x.code.length:Int)==0)=false:=XK.mpr (by omega);go_upto_region 3 with(at_make;refine wpList_make_full _ rfl _ _ 73 rfl w1.heap.size 75 tyi (.agg #[.bool false,.slice none 0 0]) 2 Tryz.underlying73 hi hz0 hz1 .i64 .i64 _ _ x.code.length rfl rfl rfl rfl (by rw[hz2];omega) (by unfold maxLen;omega) (zn _) ?_;intro w2 hown hgrow;have HO2:=zH hown;have HB2:=zH ((zb w1.heap.size w1).grown hgrow (zn _) (fun k hk=>by cases hk));clear hown hgrow)
 obtain⟨n1,hn1⟩:∃n,x.code.length=n+1:=⟨x.code.length - 1,by omega⟩
 have HL:=zH hn1;have HQ2:Hid (qr w2 w1.heap.size (⟨false,none,0,[]⟩::List.replicate n1 ⟨false,none,0,[]⟩)):=zH (by
  have h1:=qav HO2.out;rw[q7w,hn1]at h1;exact⟨h1,fun y hy=>by
   rcases Xz.mp hy with q|q
   ·rw[q];exact ja
   ·rw[(Wm.mp q).2];exact ja⟩)
 have HGR:=zH (qgk (n:=n1) HCN.out hn1);obtain⟨R0,hR0⟩:∃r,q0e m n1=r:=⟨_,rfl⟩
 have HR0:Hid (R0≤q0e m ((zu m (f:Int)).code.length - 1)):=zH (by rw[HCN.out,hn1,←hR0];exact zn _);have HRK:Hid (qg (zt m.classes).length ((⟨true,none,0,[]⟩::List.replicate n1 (⟨false,none,0,[]⟩:zj)).map zj.shp)+0≤R0):=zH (by rw[←hR0,qb4];exact zn _);clear hR0;clear HO2 hn1 q0 q1 q2 q3 q4 q5 q6;have s0:=HQ2.out.seen_at (i:=0) (by simp)
 have f0:=HQ2.out.blk.free 0;have s0:w2.cell? ⟨w1.heap.size,0,none⟩=some (.bool false):=s0;go_upto_region 6 with fail
 have HQ3:=zH (qay (n:=n1) HQ2.out);have HB3:Hid (Below w1.heap.size w1 (w2.setCell ⟨w1.heap.size,0,none⟩ (.bool true))):=zH (HB2.out.setCell (p:=⟨w1.heap.size,0,none⟩) (zn _) _);clear s0 f0 HQ2 HB2;generalize w2.setCell ⟨w1.heap.size,0,none⟩ (.bool true)=w3 at*
 have HL3:Hid ((⟨true,none,0,[]⟩::List.replicate n1 (⟨false,none,0,[]⟩:zj)).length=x.code.length):=zH (by rw[HL.out];simp);generalize(⟨true,none,0,[]⟩::List.replicate n1 (⟨false,none,0,[]⟩:zj))=X3 at*
 have hwp:IntKind.i64.wrap ((x.code.length:Int) - 1)=(x.code.length:Int) - 1:=IntWalk.i64_in _ (by omega);go_wp2_with fail
 go_loopw [8] (fun i wr=>∃(k:Nat) (X:List zj),k≤4000∧i= .int .i64 k∧X.length=x.code.length∧Hid (qr wr w1.heap.size X)∧Hid (Zc m f (X.map zj.shp))∧Hid (Below w1.heap.size w1 wr)∧Hid (qg (zt m.classes).length (X.map zj.shp)+k≤R0)) (fun i _=>4000 - (intOf i).toNat)
 case atStart=>exact⟨0,X3,Xl _,rfl,HL3.out,HQ3,HGR,HB3,HRK⟩
 case round=>
  clear HQ3 HGR HB3 HL3 HRK;obtain⟨k,X,hk,rfl,hXl,HO,HGR,HX,HRK⟩:=hrel;by_cases hk4:k<4000;rotate_left
  ·have hki:¬(k:Int)<4000:=by omega
   have HBAD:Hid False:=zH (by
    have h1:=HRK.out;have h2:=HR0.out;have hx64:x.code.length≤64:=(HM.out.method (Xo HG.out)).fits.cl;have h3:=qi3 (m:=m) (S:=X.map zj.shp) (n:=(zu m (f:Int)).code.length - 1) (by rw[Xi,HCN.out];have:=HL.out;omega) (by rw[HCN.out];omega) HM.out.fits.cl HGR.out.lens (fun s hs=>HGR.out.grow.small s hs);omega)
   exact HBAD.out.elim
  have hki:(k:Int)<4000:=by omega
  obtain⟨Rk,hRk⟩:∃r,qg (zt m.classes).length (X.map zj.shp)=r:=⟨_,rfl⟩
  have HRKk:Hid (Rk+k≤R0):=zH (by rw[←hRk];exact HRK.out);have HRX:Hid (qg (zt m.classes).length (X.map zj.shp)≤Rk∧(false=true→qg (zt m.classes).length (X.map zj.shp)<Rk)):=zH ⟨Nat.le_of_eq hRk,fun e=>by cases e⟩;clear hRk HRK;go_wp2_with fail
  go_loopw [9,10] (fun tb i wr=>∃(p:Nat) (z:Int) (t:Bool) (X:List zj),p≤x.code.length∧i= .int .i64 z∧z=(p:Int) - 1∧tb= .bool t∧X.length=x.code.length∧Hid (qr wr w1.heap.size X)∧Hid (Zc m f (X.map zj.shp))∧Hid (Below w1.heap.size w1 wr)∧Hid (t=false→∀p':Nat,p≤p'→p'<x.code.length→ve m f (X.map zj.shp) (p':Int)=true)∧Hid (qg (zt m.classes).length (X.map zj.shp)≤Rk∧(t=true→qg (zt m.classes).length (X.map zj.shp)<Rk))) (fun _ i _=>(intOf i+1).toNat)
  case atStart=>exact⟨x.code.length,_,false,X,zn _,rfl,rfl,rfl,hXl,HO,HGR,HX,zH (fun _ p h1 h2=>by omega),HRX⟩
  case round=>
   clear HO HGR HX hXl HRX;obtain⟨p,z,t,X,hp,rfl,hz,rfl,hXl,HO,HGR,HX,HT,HRX⟩:=hrel;rcases p with _|j
   ·obtain rfl:z= -1:=by omega
    clear hz;cases t
    ·have hpl:∀pc:Nat,pc<(X.map zj.shp).length→ve m f (X.map zj.shp) (pc:Int)=true:=fun pc hpc=>HT.out rfl pc (Xl _) (by rw[Xi]at hpc;omega);have HFD:=zH (qgo HGR.out (by rw[Xi];omega) hpl);clear hpl;go_wp2_with fail
     go_ret2
     exact⟨true,_,_,X.map zj.shp,by rw[Xi,hXl];rfl,HW.out.trans (HX.out.mono (Xk HZ.out)),fun _=>⟨_,X,rfl,rfl,by rw[Xi,hXl],Xk HZ.out,HO.out,HFD.out.1,HFD.out.2⟩,fun e=>by cases e⟩
    ·have HRN:Hid (qg (zt m.classes).length (X.map zj.shp)+(k+1)≤R0):=zH (by have h1:=HRX.out.2 rfl;have h2:=HRKk.out;omega);go_wp2_with fail
     go_roundw;case rel=>exact⟨k+1,X,by omega,by go_num,hXl,HO,HGR,HX,HRN⟩
     case measure=>simp[intOf];omega
   ·obtain rfl:z=(j:Int):=by omega
    clear hz;have hjX:j<X.length:=by omega
    have hjl:j<x.code.length:=by omega
    have c0:=HO.out.seen_at hjX;have c1:=HO.out.stack_at hjX;have hjn:zr (X.map zj.shp) (j:Int)=X[j].shp:=JT hjX;have HSL:=zH (HO.out.row _ (Xd hjX));have hsm:X[j].stack.length≤8:=HGR.out.grow.small X[j].shp (XW.mpr ⟨_,Xd hjX,rfl⟩);have hwq:IntKind.i64.wrap ((j:Int) - 1)=(j:Int) - 1:=IntWalk.i64_in _ (by omega);have HJN:=zH hjn;clear hjn;obtain⟨y,hy⟩:∃y,X[j]=y:=⟨_,rfl⟩
    rw[hy]at c0 c1 HSL hsm HJN;clear hy;by_cases hse:y.seen=true;rotate_left
    ·have hse':y.seen=false:=by simpa using hse
     have HT2:Hid (t=false→∀p':Nat,j≤p'→p'<x.code.length→ve m f (X.map zj.shp) (p':Int)=true):=zH (fun g p' h1 h2=>by
      rcases Xj j p' with q|q
      ·exact HT.out g p' q h2
      ·obtain rfl:p'=j:=by omega
       exact qr2 (by rw[HJN.out];exact hse'))
     go_wp2_with fail
     go_roundw;case rel=>exact⟨j,_,t,X,by omega,rfl,rfl,rfl,hXl,HO,HGR,HX,HT2,HRX⟩
     case measure=>(simp[intOf];try omega)
    have HSE:=zH hse;obtain⟨⟨L,NL,er⟩,hrs⟩:∃r,zD m (f:Int) (j:Int) y.stack=r:=⟨_,rfl⟩
    have HRS:=zH hrs;have HXD:Hid (Below w1.heap.size w1 wr.drew):=zH HX.out.drew;have HSD:=zH (slcDr zh.keeps HSL.out);have HKA:Hid (∀W,Below w1.heap.size w1 W→Below wr.heap.size wr W→(fun w'=>w'.cell? ⟨w.heap.size,0,none⟩=some (.slice A0 m.classes.length k0)∧w'.cell? ⟨w.heap.size,1,none⟩=some (.slice Ab m.statics.length k1)∧w'.cell? ⟨w.heap.size,2,none⟩=some (.slice A2 m.ints.length k2)∧w'.cell? ⟨w.heap.size,3,none⟩=some (.slice (some ad) m.methods.length k3)∧w'.cell? ⟨w.heap.size,4,none⟩=some (.slice A4 m.entries.length k4)∧w'.cell? ⟨w.heap.size,5,none⟩=some (.int .i64 m.stack)∧w'.cell? ⟨w.heap.size,6,none⟩=some (.int .i64 m.heap)∧w'.cell? ⟨w1.heap.size,j*2+1,none⟩=some (.slice y.A y.stack.length y.c)) W):=zH (fun W hW hV=>by
     obtain⟨d0,d1,d2,d3,d4,d5,d6⟩:=HBX.out.keep hW HZ.out;exact⟨d0,d1,d2,d3,d4,d5,d6,(hV.cell (p:=⟨w1.heap.size,j*2+1,none⟩) HO.out.blk.lt).trans c1⟩)
    have HVD:Hid (Below wr.heap.size wr wr.drew):=zH (zb _ _).drew;clear hrs;go_wp2_with fail
    go_region_held3 (fun w'=>w'.cell? ⟨w.heap.size,0,none⟩=some (.slice A0 m.classes.length k0)∧w'.cell? ⟨w.heap.size,1,none⟩=some (.slice Ab m.statics.length k1)∧w'.cell? ⟨w.heap.size,2,none⟩=some (.slice A2 m.ints.length k2)∧w'.cell? ⟨w.heap.size,3,none⟩=some (.slice (some ad) m.methods.length k3)∧w'.cell? ⟨w.heap.size,4,none⟩=some (.slice A4 m.entries.length k4)∧w'.cell? ⟨w.heap.size,5,none⟩=some (.int .i64 m.stack)∧w'.cell? ⟨w.heap.size,6,none⟩=some (.int .i64 m.heap)∧w'.cell? ⟨w1.heap.size,j*2+1,none⟩=some (.slice y.A y.stack.length y.c)) (first|exact HKA.out _ HXD.out HVD.out|exact HKA.out _ HX6.out HV6.out) (first|(go_at_call 57;(with_reducible refine(qce HI HXD HM (zH rfl) HSD (Xg hsm (by decide)) HRS).mono ?_);rintro e w6 ⟨A7,c7,A8,c8,rfl,hs7,hs8,hb⟩;have H7:=zH hs7;have H8:=zH hs8;have HX6:=zl HXD hb;have HV6:=zl HVD hb;clear hs7 hs8 hb))
    rename_i hHeld;clear hHeld c0 c1;by_cases her:er=0;rotate_left
    ·have hne:(er !=0)=true:=by simpa using her
     have HBAD:Hid (∀R,jx m f R=false):=zH (HGR.out.low.none_err (pc:=j) HM.out (by rw[Xi];exact hjX) (by rw[HJN.out];exact HSE.out) (by rw[HJN.out];show ¬(zD m (f:Int) (j:Int) y.stack).err=0;rw[HRS.out];exact her));go_wp2_with fail
     go_ret2
     exact q3i (HW.out.trans (HX6.out.mono (Xk HZ.out))) HBAD.out
    subst her;have HO6:=zH (HO.out.keep HV6.out);have hm1:=H8.out.le;have hm2:=H8.out.cap;have hm3:=H7.out.le;have hm4:=H7.out.cap;have HFAC:Hid (NL=YR m f j∧L.length≤8∧∀n ∈NL,0≤n∧n<(x.code.length:Int)):=zH (by
     have hjx:j<x.code.length:=by omega
     obtain⟨⟨op,a,bb⟩,hi⟩:∃i,x.code[j]? =some i:=⟨_,Xc hjx⟩
     have hxm:=HM.out.method (Xo HG.out);have him:=Xo hi;have e1:=YD (st:=y.stack) HG.out hi;rw[HRS.out]at e1;have h1:=q0m (m:=m) (st:=y.stack) (F:=0) (hxm.fits.ct _ him) (hxm.co _ him) (by rw[←e1]);have h2:=q7q (m:=m) (x:=x) (pc:=(j:Int)) (op:=op) (a:=a) (b:=bb) (st:=y.stack) (by rw[←e1]);rw[←e1]at h1 h2;exact⟨by rw[qnr HG.out hi];exact h2.1,h2.2,h1⟩)
    have hL8:=HFAC.out.2.1;go_wp2_with fail
    have HJS:Hid ((zr (X.map zj.shp) (j:Int)).seen=true):=zH (by rw[HJN.out];exact HSE.out);have HRJ:Hid (zD m (f:Int) (j:Int) (zr (X.map zj.shp) (j:Int)).stack=⟨L,NL,0⟩):=zH (by rw[HJN.out];exact HRS.out);have HST:=zH (HGR.out.step (pc:=j) HM.out (by rw[Xi];exact hjX) HJS.out HRJ.out);have HLJ:Hid (vS (X.map zj.shp) y.stack.length):=zH ⟨y.shp,by rw[←HJN.out];exact QV (by rw[Xi];exact hjX),HSE.out,rfl⟩;have HSG:Hid (L.length≤y.stack.length+1):=zH (by have h1:=qm8 (m:=m) (f:=(f:Int)) (pc:=(j:Int)) (st:=y.stack) (by rw[HRS.out]);rw[HRS.out]at h1;exact h1);go_loopw [9,14] (fun tb i wr=>∃(q:Nat) (t':Bool) (X':List zj),q≤NL.length∧i= .int .i64 q∧tb= .bool t'∧X'.length=x.code.length∧Hid (qr wr w1.heap.size X')∧Hid (Zc m f (X'.map zj.shp))∧Hid (Below w1.heap.size w1 wr)∧Hid (zd zh 2 wr wr.heap.size A7 c7 L)∧Hid (zd zq 1 wr wr.heap.size A8 c8 NL)∧Hid ((zr (X'.map zj.shp) (j:Int)).seen=true)∧Hid (vS (X'.map zj.shp) y.stack.length)∧
      Hid (t'=false→t=false∧X'=X∧∀n ∈NL.take q,(zr (X.map zj.shp) n).seen=true∧zF (zt m.classes) L (zr (X.map zj.shp) n).stack)∧Hid (qg (zt m.classes).length (X'.map zj.shp)≤Rk∧(t'=true→qg (zt m.classes).length (X'.map zj.shp)<Rk))) (fun _ i _=>NL.length - (intOf i).toNat)
    case atStart=>exact⟨0,t,X,Xl _,rfl,rfl,hXl,HO6,HGR,HX6,H7,H8,HJS,HLJ,zH (fun g=>⟨g,rfl,fun n hn=>by simp at hn⟩),HRX⟩
    case round=>
     clear HO6 HX6 H7 H8 HJS HLJ HXD HVD HV6 HX HO HKA;clear HRX;obtain⟨q,t',X',hq,rfl,rfl,hXl',HO,HGR',HX,H7,H8,HJS,HLJ,HTT,HRX⟩:=hrel;by_cases hql:q<NL.length;rotate_left
     ·have HT3:Hid (t'=false→∀p':Nat,j≤p'→p'<x.code.length→ve m f (X'.map zj.shp) (p':Int)=true):=zH (fun g p' h1 h2=>by
       obtain⟨g1,g2,g3⟩:=HTT.out g;subst g2;rcases Xj j p' with z|z
       ·exact HT.out g1 p' z h2
       ·obtain rfl:p'=j:=by omega
        rw[XH (by omega)]at g3;rw[Vm];intro _;rw[HRJ.out];exact⟨rfl,g3⟩)
      go_wp2_with fail
      go_roundw;case rel=>exact⟨j,_,t',X',by omega,rfl,rfl,rfl,hXl',HO,HGR',HX,HT3,HRX⟩
      case measure=>(simp[intOf];try omega)
     obtain⟨adN,eA8,habN,v0⟩:=H8.out.row.at_ hql;have v0:wr.cell? (adN.add q)=some (.int .i64 NL[q]):=by have:=v0;rw[Xq]at this;exact this
     have HEA8:=zH eA8;obtain⟨nr0,nr1⟩:=HFAC.out.2.2 _ (Xd hql);have HNX:Hid (NL[q] ∈YR m f j):=zH (by have:=Xd hql;have e:=HFAC.out.1;rw[←e];exact this);have HNM:Hid (NL[q] ∈NL):=zH (Xd hql);have HTQ:Hid (t'=false→(zr (X'.map zj.shp) NL[q]).seen=true→zF (zt m.classes) L (zr (X'.map zj.shp) NL[q]).stack→t=false∧X'=X∧∀n ∈NL.take (q+1),(zr (X.map zj.shp) n).seen=true∧zF (zt m.classes) L (zr (X.map zj.shp) n).stack):=zH (fun g h1 h2=>by
      obtain⟨g1,g2,g3⟩:=HTT.out g;subst g2;refine⟨g1,rfl,fun n hn=> ?_⟩;rw[List.take_succ_eq_append_getElem hql]at hn;rcases Xs.mp hn with z|z
      ·exact g3 n z
      ·rw[XG.mp z];exact⟨h1,h2⟩)
     generalize NL[q]=nn at*
     obtain⟨tg,rfl⟩:=Xm nr0;have htX:tg<X'.length:=by omega
     have hjX':j<X'.length:=by omega
     have c0:=HO.out.seen_at htX;have c1:=HO.out.stack_at htX;have htn:zr (X'.map zj.shp) (tg:Int)=X'[tg].shp:=JT htX;have HZL:=zH (HO.out.row _ (Xd htX));have hsm2:X'[tg].stack.length≤8:=HGR'.out.grow.small X'[tg].shp (XW.mpr ⟨_,Xd htX,rfl⟩);obtain⟨⟨sn,Ay,cy,sty⟩,hy2⟩:∃y,X'[tg]=y:=⟨_,rfl⟩
     rw[hy2]at c0 c1 htn HZL hsm2;dsimp only[zj.shp]at c0 c1 htn HZL hsm2;have HTN:=zH htn;have hyX:=zH hy2;clear hy2 htn;have fz0:=HO.out.blk.free (tg*2);have fz1:=HO.out.blk.free (tg*2+1);subst eA8;by_cases hs2:sn=true;rotate_left
     ·have hs2':sn=false:=by simpa using hs2
      have HPUT:Hid (qr (ji wr w1.heap.size tg ⟨true,A7,c7,L⟩) w1.heap.size (X'.set tg ⟨true,A7,c7,L⟩)):=zH (HO.out.put htX H7.out);have hcf:vL (zt m.classes) (zr (X'.map zj.shp) (tg:Int)) L L true:=q9s (by rw[HTN.out];exact hs2') HST.out.2.1;have HGP:Hid (Zc m f ((X'.set tg ⟨true,A7,c7,L⟩).map zj.shp)):=zH (by rw[List.map_set];exact HGR'.out.put (J:=L) (by rw[Xi];exact htX) (by rw[Xi];exact hjX') HJS.out HNX.out HST.out.1 HNM.out hcf (by omega) HST.out.2.2 HLJ.out HSG.out);have HRP:Hid (qg (zt m.classes).length ((X'.set tg ⟨true,A7,c7,L⟩).map zj.shp)≤Rk∧(true=true→qg (zt m.classes).length ((X'.set tg ⟨true,A7,c7,L⟩).map zj.shp)<Rk)):=zH (by
       have h1:qg (zt m.classes).length ((X'.set tg ⟨true,A7,c7,L⟩).map zj.shp)<qg (zt m.classes).length (X'.map zj.shp):=by rw[List.map_set];exact q53 (by rw[Xi];exact htX) hcf (by omega)
       have h2:=HRX.out.1;exact⟨by omega,fun _=>by omega⟩)
      have HLP:Hid (vS ((X'.set tg ⟨true,A7,c7,L⟩).map zj.shp) y.stack.length):=zH (by rw[List.map_set];exact HLJ.out.put (by rw[Xi];exact htX) hcf);clear hcf;have HSJ:Hid ((zr ((X'.set tg ⟨true,A7,c7,L⟩).map zj.shp) (j:Int)).seen=true):=zH (by rw[List.map_set,YG (by rw[Xi];exact htX)];exact qcc rfl HJS.out);have HBP:Hid (Below w1.heap.size w1 (ji wr w1.heap.size tg ⟨true,A7,c7,L⟩)):=zH ((HX.out.setCell (p:=⟨w1.heap.size,tg*2,none⟩) (zn _) _).setCell (p:=⟨w1.heap.size,tg*2+1,none⟩) (zn _) _);have HZP:(ji wr w1.heap.size tg ⟨true,A7,c7,L⟩).heap.size=wr.heap.size:=by simp[ji]
      have H7P:Hid (zd zh 2 (ji wr w1.heap.size tg ⟨true,A7,c7,L⟩) (ji wr w1.heap.size tg ⟨true,A7,c7,L⟩).heap.size A7 c7 L):=zH (YF H7.out (by rw[HZP];exact zn _) (q04 _ _ _ _) (fun i hi=>HO.out.ty_apart H7.out hi));have H8P:Hid (zd zq 1 (ji wr w1.heap.size tg ⟨true,A7,c7,L⟩) (ji wr w1.heap.size tg ⟨true,A7,c7,L⟩).heap.size (some adN) c8 NL):=zH (qb9 H8.out (by rw[HZP];exact zn _) (q04 _ _ _ _) (fun i hi=>HO.out.int_apart H8.out hi));clear HZP;go_wp2_with fail
      go_roundw;case rel=>exact⟨q+1,true,X'.set tg ⟨true,A7,c7,L⟩,by omega,by go_num,rfl,by rw[XD];exact hXl',HPUT,HGP,HBP,H7P,H8P,HSJ,HLP,zH (fun g=>by cases g),HRP⟩
      case measure=>(simp[intOf];try omega)
     have hsz:=HX.out.size;by_cases hll:sty.length=L.length;rotate_left
     ·have hnl:((sty.length:Int) !=(L.length:Int))=true:=bne_iff_ne.mpr (by omega);have HBAD:Hid (∀R,jx m f R=false):=zH (HGR'.out.low.noneR (by rw[Xi];exact htX) HST.out.1 HNM.out (qbq (by rw[HTN.out];exact hs2) (by rw[HTN.out];show ¬L.length=sty.length;omega)));go_wp2_with fail
      go_ret2
      exact q3i (HW.out.trans (HX.out.mono (Xk HZ.out))) HBAD.out
     have hnl:((sty.length:Int) !=(L.length:Int))=false:=bne_eq_false_iff_eq.mpr (by omega);have hl1:=H7.out.le;have hl2:=H7.out.cap;obtain⟨ti,hti,ht0,ht1,ht2⟩:=qQ ZY;go_wp2_with fail
     clear c0 c1 fz0 fz1 v0;obtain⟨wo,hwo⟩:∃W,W=wr:=⟨_,rfl⟩
     subst hwo;go_loopw [16,17] (fun v i wr=>∃(jj:Nat) (BT:List (Int×Int)),jj≤L.length∧i= .int .i64 jj∧BT.length=jj∧Hid (wr.ownsRow wo.heap.size 50 2 v jj (zI BT))∧Hid (Below wo.heap.size wo wr)∧Hid (BT=((sty.zip L).take jj).map (fun p=>jO (zt m.classes) p.1 p.2)∧∀t ∈BT,¬t.1=0)) (fun _ i _=>L.length - (intOf i).toNat)
     case atStart=>exact⟨0,[],Xl _,rfl,rfl,zH (Qo wo _ 2),zH ((zb _ _).alloc (zn _) _),zH ⟨by simp,fun t ht=>by simp at ht⟩⟩
     case round=>
      obtain⟨jj,BT,hjj,rfl,hBT,HOB,HV,HBT⟩:=hrel;have hszi:=HV.out.size;have hX1:=HX.out.trans (HV.out.mono hsz);have HXI:=zH hX1;by_cases hjl2:jj<L.length
      ·have hjs:jj<sty.length:=by omega
       obtain⟨ad5,e5,hab5,s0,s1⟩:=(qX zh.keeps HZL.out HV.out).row.at_ hjs;obtain⟨ad7,e7,hab7,t0,t1⟩:=(qX zh.keeps H7.out HV.out).row.at_ hjl2;have d1:=(HO.out.keep HV.out).stack_at htX;rw[hyX.out]at d1;dsimp only at d1;subst e5 e7;obtain⟨u,hu⟩:∃u,sty[jj]=u:=⟨_,rfl⟩
       obtain⟨v,hv⟩:∃v,L[jj]=v:=⟨_,rfl⟩
       have HJT:Hid (((sty.zip L).take (jj+1)).map (fun p=>jO (zt m.classes) p.1 p.2)=BT++[jO (zt m.classes) u v]):=zH (by rw[qjf hjs hjl2,hu,hv,←HBT.out.1]);have HJZ:Hid ((jO (zt m.classes) u v).1=0→∀R,jx m f R=false):=zH (fun z=>HGR'.out.low.noneR (by rw[Xi];exact htX) HST.out.1 HNM.out (qkq (i:=jj) (by rw[HTN.out];exact hs2) (by rw[HTN.out];exact hjs) hjl2 (HGR'.out.low.self _ (QV (by rw[Xi];exact htX))) HST.out.2.1 (by simp only[HTN.out];rw[hu,hv];exact z)));rw[hu]at s0 s1;rw[hv]at t0 t1;clear hu hv;have HGL:=zH ((HO.out.keep HV.out).blk.lt);have HKJ:Hid (∀W,Below wr.heap.size wr W→(fun w'=>w'.cell? ⟨w.heap.size,0,none⟩=some (.slice A0 m.classes.length k0)∧w'.cell? ⟨w1.heap.size,tg*2+1,none⟩=some (.slice (some ad5) sty.length cy)∧w'.cell? (ad5.add (jj*2))=some (.int .i64 u.1)∧w'.cell? (zc (ad5.add (jj*2)) 1)=some (.int .i64 u.2)∧w'.cell? (ad7.add (jj*2))=some (.int .i64 v.1)∧w'.cell? (zc (ad7.add (jj*2)) 1)=some (.int .i64 v.2)) W):=zH (fun W hW=>by
        obtain⟨d0,_⟩:=HBX.out.keep (HXI.out.trans (hW.mono HXI.out.size)) HZ.out;exact⟨d0,(hW.cell (p:=⟨w1.heap.size,tg*2+1,none⟩) HGL.out).trans d1,(hW.cell (p:=ad5.add (jj*2)) (by rw[zp];exact hab5)).trans s0,(hW.cell (p:=zc (ad5.add (jj*2)) 1) (by show(ad5.add _).block<_;rw[zp];exact hab5)).trans s1,
         (hW.cell (p:=ad7.add (jj*2)) (by rw[zp];exact hab7)).trans t0,(hW.cell (p:=zc (ad7.add (jj*2)) 1) (by show(ad7.add _).block<_;rw[zp];exact hab7)).trans t1⟩)
       clear s0 s1 t0 t1 d1;obtain⟨⟨jk,jn⟩,hjr⟩:∃r,qe (zt m.classes) u.1 u.2 v.1 v.2=r:=⟨_,rfl⟩
       have HJR:=zH hjr;clear hjr hX1;have HWD:Hid (Below wr.heap.size wr wr.drew):=zH (zb _ _).drew;have HWA:Hid (Below wr.heap.size wr (wr.alloc (.cells #[.int .i64 0,.int .i64 0] 50)).drew):=zH ((zb _ _).alloc (zn _) _).drew;go_wp2_with fail
       go_region_held3 (fun w'=>w'.cell? ⟨w.heap.size,0,none⟩=some (.slice A0 m.classes.length k0)∧w'.cell? ⟨w1.heap.size,tg*2+1,none⟩=some (.slice (some ad5) sty.length cy)∧w'.cell? (ad5.add (jj*2))=some (.int .i64 u.1)∧w'.cell? (zc (ad5.add (jj*2)) 1)=some (.int .i64 u.2)∧w'.cell? (ad7.add (jj*2))=some (.int .i64 v.1)∧w'.cell? (zc (ad7.add (jj*2)) 1)=some (.int .i64 v.2)) (first|exact HKJ.out _ HWD.out|exact HKJ.out _ HWA.out|exact HKJ.out _ HW9.out|exact HKJ.out _ (HW9.out.alloc HW9.out.size _)|exact HKJ.out _ ((HW9.out.setCell (p:=⟨wr.heap.size,0,none⟩) (zn _) _).setCell (p:=⟨wr.heap.size,1,none⟩) (zn _) _)) (first
        |(go_at_call 100;(first|((with_reducible refine(qch HI HXI HWD (zH hcl) HJR).mono ?_);have HYW:=HWD)|((with_reducible refine(qch HI HXI HWA (zH hcl) HJR).mono ?_);have HYW:=HWA));rintro e w9 ⟨rfl,hb⟩;have HW9:=zl HYW hb;(first|(have hq:=ze.keep (show ze (wr.alloc (.cells #[.int .i64 0,.int .i64 0] 50)).drew wr.heap.size [.int .i64 0,.int .i64 0] 50 from ze.new wr _ _) hb (by simp))|(have hq:=trivial));(first|(have f0:=hq.free 0;have f1:=hq.free 1;have r0:=hq.cells 0 _ rfl;have r1:=hq.cells 1 _ rfl)|skip);have HQ9:=zH hq;clear hq hb))
       all_goals
        first
         |(have HQ5:Hid (ze ((w9.setCell ⟨wr.heap.size,0,none⟩ (.int .i64 jk)).setCell ⟨wr.heap.size,1,none⟩ (.int .i64 jn)) wr.heap.size [.int .i64 jk,.int .i64 jn] 50):=zH ((HQ9.out.set 0 (.int .i64 jk)).set 1 (.int .i64 jn));have HW5:Hid (Below wr.heap.size wr ((w9.setCell ⟨wr.heap.size,0,none⟩ (.int .i64 jk)).setCell ⟨wr.heap.size,1,none⟩ (.int .i64 jn))):=zH ((HW9.out.setCell (p:=⟨wr.heap.size,0,none⟩) (zn _) (.int .i64 jk)).setCell (p:=⟨wr.heap.size,1,none⟩) (zn _) (.int .i64 jn));generalize((w9.setCell ⟨wr.heap.size,0,none⟩ (.int .i64 jk)).setCell ⟨wr.heap.size,1,none⟩ (.int .i64 jn))=w5 at*)
         |(have HQ5:=zH (ze.new w9 [.int .i64 jk,.int .i64 jn] 50);have HW5:Hid (Below wr.heap.size wr (w9.alloc (.cells #[.int .i64 jk,.int .i64 jn] 50))):=zH (HW9.out.alloc HW9.out.size _);change Exit.then _ _ _ _ (w9.alloc (.cells #[.int .i64 jk,.int .i64 jn] 50));generalize w9.alloc (.cells #[.int .i64 jk,.int .i64 jn] 50)=w5 at*)
        have hz5:=HW5.out.size;have b0:=HQ5.out.cells 0 _ rfl;have b1:=HQ5.out.cells 1 _ rfl;have HO5:=zH (qo HOB.out HW5.out (zZ HOB.out));have HV5:=zH (HV.out.trans (HW5.out.mono hszi));have hzv:=HV5.out.size;by_cases hk0:jk=0
        ·have hke:(jk==0)=true:=X6.mpr hk0;have HBAD:Hid (∀R,jx m f R=false):=zH (HJZ.out (by unfold jO;rw[HJR.out];exact hk0));go_wp2_with fail
         go_ret2
         exact q3i (HW.out.trans ((HXI.out.trans (HW5.out.mono HXI.out.size)).mono (Xk HZ.out))) HBAD.out
        ·have hke:(jk==0)=false:=XK.mpr hk0;have HBN:Hid (BT++[(jk,jn)]=((sty.zip L).take (jj+1)).map (fun p=>jO (zt m.classes) p.1 p.2)∧∀t ∈BT++[(jk,jn)],¬t.1=0):=zH ⟨by rw[HJT.out];unfold jO;rw[HJR.out],fun t ht=>by
          rcases Xs.mp ht with z|z
          ·exact HBT.out.2 t z
          ·rw[XG.mp z];exact hk0⟩
         go_wp2_with(at_builtin;refine vt rfl _ _ 23 rfl wo.heap.size 50 ti (.agg #[.int .i64 0,.int .i64 0]) 2 16 Tryz.underlying23 hti ht0 ht1 ht2 rfl (by decide) _ jj (zI BT) rfl (HO5.out.alloc _) (some ⟨w5.heap.size,0,none⟩) 1 1 _ (zI [(jk,jn)]) rfl rfl (qrp (by simp) (by go_simp) (by go_simp)) (kb _) (by unfold maxLen;omega) (by omega) (by simp;omega) ?_;intro v6 w6 hown hgrow;have HX6:=zH (qN (HV5.out.alloc hzv _) (HO5.out.alloc _) (by simp;omega) hgrow);have HO6:=zH hown;clear hown hgrow)
         go_roundw;case rel=>exact⟨jj+1,BT++[(jk,jn)],by omega,by go_num,by rw[Xt,hBT];rfl,zH (by show World.ownsRow _ _ _ _ _ _ ((BT++[(jk,jn)]).flatMap tyC);rw[Wc];exact HO6.out),HX6,HBN⟩
         case measure=>(simp[intOf];try omega)
      ·have hje:jj=L.length:=by omega
       have hbj:BT=Zt (zt m.classes) sty L:=by
        have:=HBT.out.1;rw[XH (by rw[Wh];omega)]at this;exact this
       have hcj:=qpa (sup:=zt m.classes) (s:=zr (X'.map zj.shp) (tg:Int)) (st:=L) (by rw[HTN.out];exact hs2) (by rw[HTN.out];exact hll) (HGR'.out.low.self _ (QV (by rw[Xi];exact htX))) HST.out.2.1 (HGR'.out.nul _ (QV (by rw[Xi];exact htX))) HST.out.2.2 (by simp only[HTN.out];rw[←hbj];exact HBT.out.2);simp only[HTN.out]at hcj;rw[←hbj]at hcj;have HCJ:Hid ((∀gr:Bool,(gr=false→BT=sty)→(gr=true→¬BT=sty)→vL (zt m.classes) (zr (X'.map zj.shp) (tg:Int)) L BT gr)∧jQ BT):=zH (by rw[HTN.out];exact hcj);clear hbj hcj HBT;subst hBT;have HOX:=zH (HO.out.keep HV.out);have H7X:=zH (qX zh.keeps H7.out HV.out);have H8X:=zH (qX zq.keeps H8.out HV.out);have HZX:=zH (qX zh.keeps HZL.out HV.out);obtain⟨Ab2,cb,rfl,hsb,_⟩:=kU HOB.out;have HSB:=zH hsb;have c1:=HOX.out.stack_at htX;rw[hyX.out]at c1;dsimp only at c1;obtain⟨r,hr⟩:∃r,decide (BT=sty)=r:=⟨_,rfl⟩
       have HR:=zH hr;clear hr hsb hX1;cases r
       ·go_upto_region 35 with(go_at_call 31;(with_reducible refine(qcd HSB HZX hje hll HR).mono ?_);rintro e w9 ⟨rfl,hb⟩;have HB9:=zH hb;clear hb)
        clear HO H7 H8 HX;have HO:=zH (HOX.out.keep HB9.out);have H7:=zH (qX zh.keeps H7X.out HB9.out);have H8:=zH (qX zq.keeps H8X.out HB9.out);have HX:=zH (HXI.out.trans (HB9.out.mono HXI.out.size));have HSB9:=zH (qX zh.keeps HSB.out HB9.out);have fz0:=HO.out.blk.free (tg*2);have fz1:=HO.out.blk.free (tg*2+1);have c0:=HO.out.seen_at htX;have c1:=HO.out.stack_at htX;have HPUT:Hid (qr (ji w9 w1.heap.size tg ⟨true,Ab2,cb,BT⟩) w1.heap.size (X'.set tg ⟨true,Ab2,cb,BT⟩)):=zH (HO.out.put htX HSB9.out);have hcf:vL (zt m.classes) (zr (X'.map zj.shp) (tg:Int)) L BT true:=HCJ.out.1 true (fun e=>by cases e) (fun _=>of_decide_eq_false HR.out);have HGP:Hid (Zc m f ((X'.set tg ⟨true,Ab2,cb,BT⟩).map zj.shp)):=zH (by rw[List.map_set];exact HGR'.out.put (J:=BT) (by rw[Xi];exact htX) (by rw[Xi];exact hjX') HJS.out HNX.out HST.out.1 HNM.out hcf (by omega) HCJ.out.2 HLJ.out HSG.out);have HRP:Hid (qg (zt m.classes).length ((X'.set tg ⟨true,Ab2,cb,BT⟩).map zj.shp)≤Rk∧(true=true→qg (zt m.classes).length ((X'.set tg ⟨true,Ab2,cb,BT⟩).map zj.shp)<Rk)):=zH (by
         have h1:qg (zt m.classes).length ((X'.set tg ⟨true,Ab2,cb,BT⟩).map zj.shp)<qg (zt m.classes).length (X'.map zj.shp):=by rw[List.map_set];exact q53 (by rw[Xi];exact htX) hcf (by omega)
         have h2:=HRX.out.1;exact⟨by omega,fun _=>by omega⟩)
        have HLP:Hid (vS ((X'.set tg ⟨true,Ab2,cb,BT⟩).map zj.shp) y.stack.length):=zH (by rw[List.map_set];exact HLJ.out.put (by rw[Xi];exact htX) hcf);clear hcf;have HSJ:Hid ((zr ((X'.set tg ⟨true,Ab2,cb,BT⟩).map zj.shp) (j:Int)).seen=true):=zH (by rw[List.map_set,YG (by rw[Xi];exact htX)];exact qcc rfl HJS.out);have HBP:Hid (Below w1.heap.size w1 (ji w9 w1.heap.size tg ⟨true,Ab2,cb,BT⟩)):=zH ((HX.out.setCell (p:=⟨w1.heap.size,tg*2,none⟩) (zn _) _).setCell (p:=⟨w1.heap.size,tg*2+1,none⟩) (zn _) _);have HZP:(ji w9 w1.heap.size tg ⟨true,Ab2,cb,BT⟩).heap.size=w9.heap.size:=by simp[ji]
        have H7P:Hid (zd zh 2 (ji w9 w1.heap.size tg ⟨true,Ab2,cb,BT⟩) (ji w9 w1.heap.size tg ⟨true,Ab2,cb,BT⟩).heap.size A7 c7 L):=zH (YF H7.out (by rw[HZP];exact zn _) (q04 _ _ _ _) (fun i hi=>HO.out.ty_apart H7.out hi));have H8P:Hid (zd zq 1 (ji w9 w1.heap.size tg ⟨true,Ab2,cb,BT⟩) (ji w9 w1.heap.size tg ⟨true,Ab2,cb,BT⟩).heap.size (some adN) c8 NL):=zH (qb9 H8.out (by rw[HZP];exact zn _) (q04 _ _ _ _) (fun i hi=>HO.out.int_apart H8.out hi));clear HZP;go_wp2_with fail
        have HPUT:Hid (qr ((w9.setCell ⟨w1.heap.size,tg*2,none⟩ (.bool true)).setCell ⟨w1.heap.size,tg*2+1,none⟩ (.slice Ab2 L.length cb)) w1.heap.size (X'.set tg ⟨true,Ab2,cb,BT⟩)):=zH (by rw[←hje];exact HPUT.out);have HBP:Hid (Below w1.heap.size w1 ((w9.setCell ⟨w1.heap.size,tg*2,none⟩ (.bool true)).setCell ⟨w1.heap.size,tg*2+1,none⟩ (.slice Ab2 L.length cb))):=zH (by rw[←hje];exact HBP.out);have H7P:Hid (zd zh 2 ((w9.setCell ⟨w1.heap.size,tg*2,none⟩ (.bool true)).setCell ⟨w1.heap.size,tg*2+1,none⟩ (.slice Ab2 L.length cb)) ((w9.setCell ⟨w1.heap.size,tg*2,none⟩ (.bool true)).setCell ⟨w1.heap.size,tg*2+1,none⟩ (.slice Ab2 L.length cb)).heap.size A7 c7 L):=zH (by rw[←hje];exact H7P.out);have H8P:Hid (zd zq 1 ((w9.setCell ⟨w1.heap.size,tg*2,none⟩ (.bool true)).setCell ⟨w1.heap.size,tg*2+1,none⟩ (.slice Ab2 L.length cb)) ((w9.setCell ⟨w1.heap.size,tg*2,none⟩ (.bool true)).setCell ⟨w1.heap.size,tg*2+1,none⟩ (.slice Ab2 L.length cb)).heap.size (some adN) c8 NL):=zH (by rw[←hje];exact H8P.out);go_roundw;case rel=>exact⟨q+1,true,X'.set tg ⟨true,Ab2,cb,BT⟩,by omega,by go_num,rfl,by rw[XD];exact hXl',HPUT,HGP,HBP,H7P,H8P,HSJ,HLP,zH (fun g=>by cases g),HRP⟩
        case measure=>(simp[intOf];try omega)
       ·have HTF:Hid (t'=false→t=false∧X'=X∧∀n ∈NL.take (q+1),(zr (X.map zj.shp) n).seen=true∧zF (zt m.classes) L (zr (X.map zj.shp) n).stack):=zH (fun g=>HTQ.out g (by rw[HTN.out];exact hs2) (by rw[HTN.out];show zF _ L sty;have hbs:BT=sty:=XN HR.out;have h1:=(HCJ.out.1 false (fun _=>hbs) (fun e=>by cases e)).up;rw[hbs]at h1;exact h1));go_wp2_with(go_at_call 31;(with_reducible refine(qcd HSB HZX hje hll HR).mono ?_);rintro e w9 ⟨rfl,hb⟩;have HB9:=zH hb;clear hb)
        have HO9:=zH (HOX.out.keep HB9.out);have H79:=zH (qX zh.keeps H7X.out HB9.out);have H89:=zH (qX zq.keeps H8X.out HB9.out);have HX9:=zH (HXI.out.trans (HB9.out.mono HXI.out.size));go_roundw;case rel=>exact⟨q+1,t',X',by omega,by go_num,rfl,hXl',HO9,HGR',HX9,H79,H89,HJS,HLJ,HTF,HRX⟩
        case measure=>(simp[intOf];try omega)
def qep(m:za)(w:World)(e:Ending)(w':World):Prop:=∃(A:Option Addr) (n c:Nat) (b:Int),e= .returned (.tuple #[.slice A n c,.int .i64 b])∧Below w.heap.size w w'∧
 (b<0→∃XS,n=m.methods.length∧XS.length=n∧w'.ownsRow w.heap.size 73 1 (.slice A n c) n (Qk XS)∧Zd w' (.slice A n c) XS∧(∀p ∈XS,w.heap.size≤p.1)∧∀(i:Nat) p,XS[i]? =some p→VG m (i:Int) (p.2.map zj.shp)∧kA m (i:Int) (p.2.map zj.shp))∧
 (0≤b→∀a,Qz m a=false)
theorem qg9{m:za}{x:zf}{f:Nat}{h:zg}{w0 w:World}(HI:Hid (zi w0 w0.heap.size h m))(HX:Hid (Below w0.heap.size w0 w))(HM:Hid (zK m))(HG:Hid (m.methods[f]? =some x)):
  Calls Tryz.prog 56 #[zk h m,.int .i64 f] w (q58 m f w):=qfi m x f h w (HI.out.now HX.out) HM.out HG.out
set_option maxHeartbeats 3200000 in
theorem qn8(m:za)(h:zg)(w:World)(H:zi w w.heap.size h m)(hm:zK m)(hml:m.methods.length≤1000):
  Calls Tryz.prog 25 #[zk h m] w (qep m w):=by
 obtain⟨i0,hi,hz0,hz1,hz2⟩:=qQ q83;have HW:=zH ((zb w.heap.size w).alloc (zn _) (zo h m));have HI:=zH (H.now HW.out);have HM:=zH hm;have HBX:=zH (zX w h m);have HZ:Hid (w.heap.size<(w.alloc (zo h m)).heap.size):=zH (by simp);clear H hm;go_enter Tryz.func25,Tryz.ntmps25;go_upto_region 1 with fail
 generalize w.alloc (zo h m)=w1 at*
 go_wp2_with fail
 go_loopw [4,5] (fun v i wr=>∃(k:Nat) (XS:List (Nat×List zj)),k≤m.methods.length∧i= .int .i64 k∧Hid (XS.length=k)∧Hid (wr.ownsRow w1.heap.size 73 1 v k (Qk XS))∧Hid (Below w1.heap.size w1 wr)∧Hid (Zd wr v XS)∧Hid (∀p ∈XS,w1.heap.size≤p.1)∧Hid (∀(i:Nat) p,XS[i]? =some p→VG m (i:Int) (p.2.map zj.shp)∧kA m (i:Int) (p.2.map zj.shp))) (fun _ i _=>m.methods.length - (intOf i).toNat)
 case atStart=>exact⟨0,[],by omega,rfl,zH rfl,zH (Jn w1 _),zH ((zb _ _).alloc (zn _) _),zH (Zd.nil w1 _),zH (fun p h=>by simp at h),zH (fun i p h=>by simp at h)⟩
 case round=>
  obtain⟨k,XS,hk,rfl,HL,HO,HX,HE,HP,HF⟩:=hrel;obtain⟨q0,q1,q2,q3,q4,q5,q6⟩:=HBX.out.keep HX.out HZ.out;have hsz:=HX.out.size;by_cases hlt:k<m.methods.length
  ·obtain⟨x,hx⟩:∃x,m.methods[k]? =some x:=⟨_,Xc hlt⟩
   have HG:=zH hx;clear hx;go_upto_region 6 with(go_at_call 56;(with_reducible refine(qg9 HI HX HM HG).mono ?_);rintro e w4 ⟨ok,As,cs,S,rfl,hb,hgd,hno⟩;have HO4:=zH (qo HO.out hb (zZ HO.out));have HX4:=zl HX hb;have HE4:=zH (HE.out.below (zZ HO.out) hb);have HGD:=zH hgd;have HNO:=zH hno;have hsz4:=HX4.out.size;clear hb hgd hno)
   cases ok
   ·have HBAD:Hid (∀a,Qz m a=false):=zH (q7t hlt (HNO.out rfl));go_wp2_with fail
    go_ret2
    exact⟨none,0,0,k,rfl,HW.out.trans (HX4.out.mono HW.out.size),(fun q=>by omega),fun _=>HBAD.out⟩
   ·obtain⟨g,X,hA,hS,hc,hgb,hout,hfound,hleast⟩:=HGD.out rfl;clear HGD HNO;subst hA hS hc;have HG0:Hid (∀p ∈XS,p.1<g):=zH (fun p hp=>Xp (HE.out.outs p hp).blk.lt hgb);have HGV:Hid (∀b,Value.ownBlock u4=some b→b<g):=zH (fun b e=>Xp (zZ HO.out b e) hgb);have HQ:=zH hout;have HFO:=zH (And.intro hfound hleast);have HPg:Hid (w1.heap.size≤g):=zH (Xg hsz hgb);clear hout hfound hleast hgb;simp only[Xi];go_wp2_with(at_builtin;refine qa0 rfl _ _ 31 rfl w1.heap.size 73 i0 24 Tryz.underlying31 hi hz0 hz1 hz2 _ k (Qk XS) rfl (HO4.out.alloc _) (HE4.out.dry.below (zZ HO4.out) ((zb _ _).alloc (zn _) _)) ⟨w4.heap.size,0,none⟩ _ _ _ _ rfl (cell_one_new w4 _ _ 0 _ rfl) (by unfold maxLen;omega) (by omega) (by simp;omega) _ rfl ?_;intro g9 c9 w6 hown hgrow hor hlt9 hdry;have HX6:=zH (qN (HX4.out.alloc hsz4 _) (HO4.out.alloc _) (by simp;omega) hgrow);have HO6:=zH hown;have HE6:=zH ((HE4.out.below (zZ HO4.out) ((zb _ _).alloc (zn _) _)).snoc (HQ.out.keep ((zb _ _).alloc (zn _) _)) HG0.out HGV.out hgrow (hor.imp id (fun e=>Nat.le_of_eq e.symm)) hdry);clear hown hgrow hor hdry)
    go_roundw;case rel=>
     refine⟨k+1,XS++[(g,X)],by omega,by go_num,zH (by rw[Xt,HL.out];rfl),zH (by unfold Qk;rw[XX];exact HO6.out),HX6,HE6,zH (fun p hp=> ?_),zH (fun i p hi=> ?_)⟩
     ·rcases Xs.mp hp with q|q
      ·exact HP.out p q
      ·simp at q;subst q;exact HPg.out
     ·rcases Xj i XS.length with q|q
      ·rw[XJ q]at hi;exact HF.out i p hi
      ·rw[XM q]at hi;have hiz:i - XS.length=0:=by
        rcases Wo (i - XS.length)with z|z
        ·exact z
        ·rw[Xu (by simp;omega)]at hi;cases hi
       rw[hiz]at hi;simp at hi;subst hi;have hik:i=k:=by have:=HL.out;omega
       subst hik;exact HFO.out
    case measure=>simp[intOf];omega
  ·have e:k=m.methods.length:=by omega
   subst e;obtain⟨Ae,ce,he⟩:∃A c,u4= .slice A m.methods.length c:=by
    rcases kq HO.out with⟨e1,hz⟩|⟨g,c,e1,_,_⟩
    ·exact⟨none,0,by rw[e1,hz]⟩
    ·exact⟨_,c,e1⟩
   subst he;go_wp2_with fail
   go_ret2
   exact⟨Ae,m.methods.length,ce,-1,rfl,HW.out.trans (HX.out.mono HW.out.size),fun _=>⟨XS,rfl,HL.out,jc HO.out HW.out.size,HE.out,fun p hp=>Xg HW.out.size (HP.out p hp),HF.out⟩,fun q=>by omega⟩
end Go.Proofs.YtcmiljnbmgkdnaaGreat
