import Derived.WalkMore
import Derived.Test.YtcmiljnbmgkdnaaGreatFB31
namespace Go.Proofs.YtcmiljnbmgkdnaaGreat
set_option maxRecDepth 100000
set_option linter.unusedVariables false
set_option linter.unusedSimpArgs false
open Go.ChangeShapes Go.WideShapes Go.ChangeAt Go.RowKit
def qra(n:Nat)(w:World)(e:Ending)(w':World):Prop:=∃g,e= .returned (.slice (some ⟨g,0,none⟩) (n+1) (n+1))∧w.heap.size≤g∧jR w' w.heap.size g (⟨true,none,0,[]⟩::List.replicate n ⟨false,none,0,[]⟩)∧Below w.heap.size w w'
theorem qof{w:World}{B g n:Nat}(h:qS w g (⟨true,none,0,[]⟩::List.replicate n ⟨false,none,0,[]⟩))(hB:B≤g):jR w B g (⟨true,none,0,[]⟩::List.replicate n ⟨false,none,0,[]⟩):=by
 have hall:∀i (hi:i<(⟨true,none,0,[]⟩::List.replicate n (⟨false,none,0,[]⟩:zr)).length),((⟨true,none,0,[]⟩::List.replicate n (⟨false,none,0,[]⟩:zr))[i]).stack=[]:=fun i hi=>by
  have hm:=Xf hi;rcases XA.mp hm with e|e
  ·rw[e]
  ·rw[(Wi.mp e).2]
 exact⟨h,hB,fun i hi q=>absurd (hall i hi) q,fun i j hi hj _ q _=>absurd (hall i hi) q⟩
theorem qij(n:Nat)(hn:n≤1000)(w:World):Calls Tryz.prog 89 #[.int .i64 ((n+1:Nat):Int)] w (qra n w):=by
 obtain⟨tyi,hi,hz0,hz1,hz2⟩:=jU qki;obtain⟨k,hk⟩:∃k,n+1=k:=⟨_,rfl⟩
 have HK:=zH hk;have hk0:(k:Int)>0:=by omega
 rw[hk];clear hk;go_enter Tryz.func89,Tryz.ntmps89;go_upto_region 2 with(at_make;refine wpList_make_full _ rfl _ _ 73 rfl w.heap.size 75 tyi (.agg #[.bool false,.slice none 0 0]) 2 Tryz.underlying73 hi hz0 hz1 .i64 .i64 _ _ k rfl rfl rfl rfl (by rw[hz2];have:=HK.out;omega) (by unfold maxLen;have:=HK.out;omega) (zn _) ?_;intro w2 hown hgrow;have HO2:=zH hown;have HB2:=zH ((zb w.heap.size w).grown hgrow (zn _) (fun k hk=>by cases hk));clear hown hgrow)
 have HQ2:Hid (qS w2 w.heap.size (⟨false,none,0,[]⟩::List.replicate n ⟨false,none,0,[]⟩)):=zH (by
  have h1:=qod HO2.out;rw[qhl,←HK.out]at h1;exact⟨h1,fun y hy=>by
   rcases XA.mp hy with q|q
   ·rw[q];exact kv
   ·rw[(Wi.mp q).2];exact kv⟩)
 have s0:=HQ2.out.seen_at (i:=0) (by simp)
 have f0:=HQ2.out.blk.free 0;have s0:w2.cell? ⟨w.heap.size,0,none⟩=some (.bool false):=s0;have hk1:0<k:=by omega
 go_wp2_with fail
 go_ret;refine⟨w.heap.size,(by rw[HK.out];rfl),zn _,qof (qoj (n:=n) HQ2.out) (zn _),HB2.out.setCell (p:=⟨w.heap.size,0,none⟩) (zn _) _⟩
theorem qmy{k n:Nat}{w:World}(HK:Hid (k=n+1))(hn:n≤1000):Calls Tryz.prog 89 #[.int .i64 (k:Int)] w fun e w'=>∃g,e= .returned (.slice (some ⟨g,0,none⟩) k k)∧w.heap.size≤g∧jR w' w.heap.size g (⟨true,none,0,[]⟩::List.replicate n ⟨false,none,0,[]⟩)∧Below w.heap.size w w':=by
 rw[HK.out];exact qij n hn w
theorem qt6{m:za}{h:zi}{f pc:Int}{st L:List (Int×Int)}{NL:List Int}{er:Int}{A:Option Addr}{cap n:Nat}{w0 w:World}(HI:Hid (zm w0 w0.heap.size h m))(HX:Hid (Below w0.heap.size w0 w))(HM:Hid (zN m))(HN:Hid (st.length=n))(HS:Hid (ze zc 2 w w.heap.size A cap st))(hs:n≤4000)(HR:Hid (zR m f pc st=⟨L,NL,er⟩)):
  Calls Tryz.prog 90 #[zp h m,.int .i64 f,.int .i64 pc,.slice A n cap] w fun e w'=>∃A c A' c',e= .returned (.tuple #[.slice A L.length c,.slice A' NL.length c',.int .i64 er])∧ze zc 2 w' w'.heap.size A c L∧ze zl 1 w' w'.heap.size A' c' NL∧(∀ad,A=some ad→w.heap.size≤ad.block)∧(∀ad,A'=some ad→w.heap.size≤ad.block)∧Below w.heap.size w w':=by
 obtain rfl:=HN.out;have H:=qbz m f pc st A cap h w (HI.out.now HX.out) HM.out HS.out hs;rw[HR.out]at H;exact H
def q6m(m:za)(f:Nat)(w:World)(e:Ending)(w':World):Prop:=∃(A:Option Addr) (n c:Nat) (pc:Int) (ok:Bool),e= .returned (.tuple #[.slice A n c,.int .i64 pc,.bool ok])∧Below w.heap.size w w'∧(ok=false→∀R,vv m (f:Int) R=false)∧
 (ok=true→∃g X,A=some ⟨g,0,none⟩∧n=X.length∧c=X.length∧w.heap.size≤g∧qS w' g X∧JG w.heap.size X∧ZQ m (f:Int) (X.map zr.shp))
theorem qan{m:za}{f:Nat}{w w':World}{pc:Int}(hb:Below w.heap.size w w')(h:∀R,vv m (f:Int) R=false):q6m m f w (.returned (.tuple #[.slice none 0 0,.int .i64 pc,.bool false])) w':=⟨none,0,0,pc,false,rfl,hb,fun _=>h,fun e=>by cases e⟩
theorem qrl{m:za}{h:zi}{f B g nC R p q tg n:Nat}{w0 w1 w:World}{st L:List (Int×Int)}{NL:List Int}{A7 A8:Option Addr}{c7 c8:Nat}{X:List zr}(HI:Hid (zm w0 w0.heap.size h m))(HB:Hid (B=w1.heap.size∧Below w0.heap.size w0 w1))(HM:Hid (zN m))(HN:Hid (js m f B g nC R p q w1 st L NL A7 A8 c7 c8 X w))(HS:Hid (Jp m f p nC st L NL))(HT:Hid (p<nC∧nC≤1000∧tg<X.length∧X.length=n)):
  Calls Tryz.prog 91 #[.slice h.A0 m.classes.length h.c0,.slice (some ⟨g,0,none⟩) n n,.int .i64 tg,.slice A7 L.length c7] w fun e w'=>∃y,X[tg]? =some y∧q7a (zz m.classes) B g tg X y L w e w':=by
 obtain⟨hp,hc,htg,hn⟩:=HT.out;obtain⟨hB,hb01⟩:=HB.out;have hBz:B≤w.heap.size:=by rw[hB];exact HN.out.inv.below.size
 have hb:Below w0.heap.size w0 w:=hb01.trans (HN.out.inv.below.mono (by rw[hB];exact hb01.size));have hsup:=JP (HI.out.now hb).classes.row;have hsup0:=JP HI.out.classes.row;have hml:m.classes.length≤1000:=by have:=HM.out.fits.cl;omega
 have hself:zG (zz m.classes) X[tg].stack X[tg].stack:=by
  have:=HN.out.inv.low.self _ (VX (S:=X.map zr.shp) (i:=tg) (by rw[Xo];exact htg));rw[q1d htg]at this;exact this
 have H:=qn1 (zz m.classes) h.A0 h.c0 B g tg X X[tg] L A7 c7 w (by rw[kq];exact hml) (fun i s hi=>by obtain⟨ad,e,h1,h2⟩:=hsup0.below_to (C:=w0.heap.size) hb (zn _) i s hi;exact⟨ad,e,by have:=hb01.size;omega,h2⟩) hBz HN.out.inv.own htg rfl (by rw[HN.out.inv.len];exact hc) HN.out.ty (by have:=HS.out.few;omega)
  (fun ad ax e1 e2 hs hn1 hn2 e3=>((HN.out.far7 hn2 ad e1).2.2 tg htg hn1 ax e2) e3.symm) hself (HN.out.fitsL HM.out HS.out hp)
 rw[kq,hn]at H;exact H.mono fun e w' h=>⟨X[tg],Xc htg,h⟩
set_option maxHeartbeats 12800000 in
theorem qii(m:za)(x:zh)(f:Nat)(h:zi)(w:World)(H:zm w w.heap.size h m)(hm:zN m)(hx:m.methods[f]? =some x):
  Calls Tryz.prog 50 #[zp h m,.int .i64 f] w (q6m m f w):=by
 have HW:=zH (vr (w:=w) (h:=h) (m:=m));have HBX:=zH (ql w h m);have HZ:Hid (w.heap.size<(w.alloc (zg h m)).heap.size):=zH (by simp);have HI:=zH (H.now HW.out);have HM:=zH hm;have HG:=zH hx;have hle:=H.methods.le;have hcap:=H.methods.cap;have hxm:=hm.method (Xs hx);have hxl:x.code.length≤1000:=by have:=hxm.fits.cl;omega
 have hxp:=hxm.cp;have hfl:=(XM.mp hx).1;have hfe:=(XM.mp hx).2;obtain⟨ad,A4c,j4,ea,hab,hc4⟩:=qp7 HI.out hfl;rw[hfe]at hc4;obtain⟨A0,Ab,A2,A3,A4,k0,k1,k2,k3,k4⟩:=h;dsimp only at ea hle hcap;subst ea;have hcN:zw m (f:Int)=x:=by unfold zw;rw[Xi,hx];rfl
 have HCN:=zH hcN;obtain⟨nC,hnC⟩:∃n,x.code.length=n:=⟨_,rfl⟩
 obtain⟨n1,hn1⟩:∃n,nC=n+1:=⟨nC - 1,by omega⟩
 have HL:=zH hn1;have HNC:=zH hnC;have hn1l:n1≤1000:=by omega
 have hnl:nC≤1000:=by omega
 rw[hnC]at hc4;clear H hm hx hxm hfe hcN hn1 hnC hxp hxl;go_enter Tryz.func50,Tryz.ntmps50;go_wp2_with fail
 go_step3
 change Code.wp _ _ _ _ (w.alloc (zg ⟨A0,Ab,A2,some ad,A4,k0,k1,k2,k3,k4⟩ m));generalize w.alloc (zg ⟨A0,Ab,A2,some ad,A4,k0,k1,k2,k3,k4⟩ m)=w1 at*
 obtain⟨q0,q1,q2,q3,q4,q5,q6⟩:=HBX.out;go_wp2_with(go_at_call 89;(with_reducible refine(qmy HL hn1l).mono ?_);rintro e w2 ⟨g,rfl,hg,ho,hb⟩;have HO2:=zH ho;have HB2:=zH hb;have HGE:=zH hg;clear ho hb hg)
 go_step3
 go_wp2_with fail
 have HINV:Hid (ZS m f w1.heap.size g nC (kf (zz m.classes).length ((⟨true,none,0,[]⟩::List.replicate n1 (⟨false,none,0,[]⟩:zr)).map zr.shp)) w1 (⟨true,none,0,[]⟩::List.replicate n1 (⟨false,none,0,[]⟩:zr)) w2):=zH ⟨by rw[HL.out];simp,zn _,HO2.out,by
  have e:((⟨true,none,0,[]⟩::List.replicate n1 (⟨false,none,0,[]⟩:zr)).map zr.shp)=⟨true,[]⟩::List.replicate n1 (⟨false,[]⟩:zo):=by simp[zr.shp]
  rw[e];exact qbl (by rw[HCN.out,HNC.out,HL.out]),HB2.out,fun s hs=>by
  have e:((⟨true,none,0,[]⟩::List.replicate n1 (⟨false,none,0,[]⟩:zr)).map zr.shp)=⟨true,[]⟩::List.replicate n1 (⟨false,[]⟩:zo):=by simp[zr.shp]
  rw[e]at hs;rcases XA.mp hs with rfl|hs
  ·exact⟨(fun t ht=>by cases ht),(fun z=>by cases z)⟩
  ·rw[(Wi.mp hs).2];exact⟨(fun t ht=>by cases ht),fun _=>rfl⟩⟩
 have HBB:Hid (w1.heap.size=w1.heap.size∧Below w1.heap.size w1 w1):=zH ⟨rfl,zb _ _⟩;have HQ:Hid (∀W,Below w1.heap.size w1 W→W.cell? ⟨w.heap.size,0,none⟩=some (.slice A0 m.classes.length k0)∧W.cell? ⟨w.heap.size,1,none⟩=some (.slice Ab m.statics.length k1)∧W.cell? ⟨w.heap.size,2,none⟩=some (.slice A2 m.ints.length k2)∧W.cell? ⟨w.heap.size,3,none⟩=some (.slice (some ad) m.methods.length k3)∧W.cell? ⟨w.heap.size,4,none⟩=some (.slice A4 m.entries.length k4)∧W.cell? ⟨w.heap.size,5,none⟩=some (.int .i64 m.stack)∧W.cell? ⟨w.heap.size,6,none⟩=some (.int .i64 m.heap)):=zH (fun W hW=>HBX.out.keep hW HZ.out);generalize kf (zz m.classes).length ((⟨true,none,0,[]⟩::List.replicate n1 (⟨false,none,0,[]⟩:zr)).map zr.shp)=R0 at*
 generalize(⟨true,none,0,[]⟩::List.replicate n1 (⟨false,none,0,[]⟩:zr))=X0 at*
 clear q0 q1 q2 q3 q4 q5 q6 hc4 hab HO2 HB2;go_loopg [4] R0 (fun R s4 wr=>∃X,s4= .slice (some ⟨g,0,none⟩) nC nC∧Hid (ZS m f w1.heap.size g nC R w1 X wr))
 case atStart=>exact⟨X0,rfl,HINV⟩
 case round=>
  clear HINV;obtain⟨X,rfl,HINV⟩:=hrel;obtain⟨R,hR⟩:∃R,R=gk:=⟨_,rfl⟩
  subst hR;obtain⟨wo,hwo⟩:∃W,W=wr:=⟨_,rfl⟩
  subst hwo;go_wp2_with fail
  go_loopg [4,26] nC (fun kk s4 i wq=>∃(p:Nat) (X:List zr),p+kk=nC∧i= .int .i64 p∧s4= .slice (some ⟨g,0,none⟩) nC nC∧Hid (ZS m f w1.heap.size g nC R w1 X wq)∧Hid (∀p':Nat,p'<p→kR m (f:Int) (X.map zr.shp) (p':Int)=true))
  case atStart=>exact⟨0,X,by omega,rfl,rfl,HINV,zH (fun p' h=>by omega)⟩
  case round=>
   clear HINV;obtain⟨p,X,hpk,rfl,rfl,HINV,HBK⟩:=hrel;obtain⟨km,hkm⟩:∃R,R=gk:=⟨_,rfl⟩
   subst hkm;by_cases hp:p<nC;rotate_left
   ·have hki:¬(p:Int)<(nC:Int):=by omega
    have HPE:Hid (p=nC):=zH (by omega);go_wp2_with fail
    try rw[Exit.noGoto_ret]
    go_ret3
    refine⟨some ⟨g,0,none⟩,nC,nC,0,true,rfl,HW.out.trans (HINV.out.below.mono (Xh HZ.out)),(fun e=>by cases e),fun _=>⟨g,X,rfl,HINV.out.len.symm,HINV.out.len.symm,Xd (Xh HZ.out) HINV.out.own.base,HINV.out.own.out,HINV.out.own.news.more (Xh HZ.out),?_,fun Q hQ=>HINV.out.low.over hQ,HINV.out.low.small,HINV.out.flat⟩⟩;exact HINV.out.low.done (by rw[Xo,HINV.out.len,HL.out];omega) (fun pc hpc=>HBK.out pc (by rw[Xo,HINV.out.len]at hpc;rw[HPE.out];exact hpc))
   have hki:(p:Int)<(nC:Int):=by omega
   have hpX:p<X.length:=by rw[HINV.out.len];exact hp
   have c0:=HINV.out.own.out.seen_at hpX;have c1:=HINV.out.own.out.stack_at hpX;have hpn:zt (X.map zr.shp) (p:Int)=X[p].shp:=q1d hpX;have HSL:=zH (HINV.out.own.out.row _ (Xf hpX));have hsm:X[p].stack.length≤8:=HINV.out.low.small X[p].shp (XW.mpr ⟨_,Xf hpX,rfl⟩);obtain⟨⟨ys,yA,yc,yst⟩,hy⟩:∃y,X[p]=y:=⟨_,rfl⟩
   rw[hy]at c0 c1 hpn HSL hsm;dsimp only[zr.shp]at c0 c1 hpn HSL hsm;have HPN:=zH hpn;clear hpn hy;have HNA:Hid (Below wr.heap.size wr (wr.alloc (.cells #[.bool ys,.slice yA yst.length yc] 75))):=zH ((zb _ _).alloc (zn _) _);have HBS:=zH (zd.new wr [.bool ys,.slice yA yst.length yc] 75);go_upto_region 5 with fail
   change Code.wp _ _ _ _ (wr.alloc (.cells #[.bool ys,.slice yA yst.length yc] 75));have HBS:Hid (zd (wr.alloc (.cells #[.bool ys,.slice yA yst.length yc] 75)) wr.heap.size [.bool ys,.slice yA yst.length yc] 75):=HBS;clear c0 c1;generalize wr.alloc (.cells #[.bool ys,.slice yA yst.length yc] 75)=w3 at*
   have b0:w3.cell? ⟨wr.heap.size,0,none⟩=some (.bool ys):=HBS.out.cells 0 _ rfl;have b1:w3.cell? ⟨wr.heap.size,1,none⟩=some (.slice yA yst.length yc):=HBS.out.cells 1 _ rfl;have HINV3:=zH (HINV.out.keep (zn _) HNA.out);have HX3:=zH HINV3.out.below;by_cases hse:ys=true;rotate_left
   ·have hse':ys=false:=by simpa using hse
    subst hse';have HBK2:Hid (∀p':Nat,p'<p+1→kR m (f:Int) (X.map zr.shp) (p':Int)=true):=zH (fun p' h=>by
     rcases Xk p' p with z|z
     ·exact HBK.out p' z
     ·obtain rfl:p'=p:=by omega
      unfold kR;rw[HPN.out];rfl)
    clear hse;go_wp2_with fail
    go_roundg (km - 1)
    case rel=>exact⟨p+1,X,by omega,by go_num,rfl,HINV3,HBK2⟩
    case measure=>omega
   subst hse;obtain⟨q0,q1,q2,q3,q4,q5,q6⟩:=HQ.out _ HX3.out;obtain⟨⟨L,NL,er⟩,hrs⟩:∃r,zR m (f:Int) (p:Int) yst=r:=⟨_,rfl⟩
   have HRS:=zH hrs;have HST3:=zH (q1k zc.keeps HSL.out HNA.out);clear hrs;go_upto_region 7 with(go_at_call 90;(with_reducible refine(qt6 HI HX3 HM (zH rfl) HST3 (Xd hsm (by decide)) HRS).mono ?_);rintro e w6 ⟨A7,c7,A8,c8,rfl,hs7,hs8,hn7,hn8,hb⟩;have H7:=zH hs7;have H8:=zH hs8;have HN7:=zH hn7;have HN8:=zH hn8;have HV6:=zH hb;clear hs7 hs8 hn7 hn8 hb)
   clear q0 q1 q2 q3 q4 q5 q6 b0 b1;have hpm:p<(X.map zr.shp).length:=by rw[Xo];exact hpX
   have HPM:=zH hpm;clear hpm;by_cases her:er=0;rotate_left
   ·have hne:(er !=0)=true:=by simpa using her
    have HER:=zH her;clear her;go_wp2_with fail
    rw[Exit.noGoto_ret];go_ret3
    exact qan (HW.out.trans ((HX3.out.trans (HV6.out.mono HX3.out.size)).mono (Xh HZ.out))) (HINV.out.low.none_err HM.out HPM.out (by rw[HPN.out]) (by rw[HPN.out];show ¬(zR m (f:Int) (p:Int) yst).err=0;rw[HRS.out];exact HER.out))
   subst her;have HWELL:Hid (Jp m f p nC yst L NL):=zH (by
    have:=q8i HM.out HG.out (by rw[HNC.out];exact hp) HRS.out
    rwa [HNC.out]at this)
   have HNX:Hid (js m f w1.heap.size g nC R p 0 w1 yst L NL A7 A8 c7 c8 X w6):=zH (qsf HINV3.out (zn _) HV6.out HPN.out HBK.out H7.out H8.out HN7.out HN8.out);have hm1:=H8.out.le;have hm2:=H8.out.cap;have hm3:=H7.out.le;have hm4:=H7.out.cap;clear H7 H8 HN7 HN8;go_wp2_with fail
   obtain⟨wi,hwi⟩:∃W,W=wr:=⟨_,rfl⟩
   subst hwi;go_loopg [4,49] NL.length (fun kk s4 i wq=>∃(q:Nat) (X:List zr),q+kk=NL.length∧i= .int .i64 q∧s4= .slice (some ⟨g,0,none⟩) nC nC∧Hid (js m f w1.heap.size g nC R p q w1 yst L NL A7 A8 c7 c8 X wq))
   case atStart=>exact⟨0,X,by omega,rfl,rfl,HNX⟩
   case round=>
    clear HNX HINV HINV3 HBK HPM HPN HX3 HST3 HNA HBS HSL hpX HV6;clear X;obtain⟨q,X,hqk,rfl,rfl,HNX⟩:=hrel;by_cases hq:q<NL.length;rotate_left
    ·have hki2:¬(q:Int)<(NL.length:Int):=by omega
     have HQE:Hid (q=NL.length):=zH (by omega);have HPL:Hid (∀p':Nat,p'<p+1→kR m (f:Int) (X.map zr.shp) (p':Int)=true):=zH (by
      have h:=HNX.out;rw[HQE.out]at h;exact h.place HWELL.out)
     have HINV:=zH HNX.out.inv;go_wp2_with fail
     go_roundg (km - 1)
     case rel=>exact⟨p+1,X,by omega,by go_num,rfl,HINV,HPL⟩
     case measure=>omega
    have hki2:(q:Int)<(NL.length:Int):=by omega
    obtain⟨adN,eA8,habN,v0⟩:=HNX.out.nx.row.at_ hq;have v0:wr.cell? (adN.add q)=some (.int .i64 NL[q]):=by have:=v0;rw[Xz]at this;exact this
    obtain⟨nr0,nr1⟩:=HWELL.out.next _ (Xf hq);have HMEM:=zH (Xf hq);obtain⟨tg,htg⟩:=Xq nr0;rw[htg]at v0;have HTG:=zH htg;have hXn:=HNX.out.inv.len;have htX:tg<X.length:=by omega
    have HT:Hid (p<nC∧nC≤1000∧tg<X.length∧X.length=nC):=zH ⟨hp,hnl,htX,hXn⟩;have HXN:=zH hXn;obtain⟨q0,q1,q2,q3,q4,q5,q6⟩:=HQ.out _ HNX.out.inv.below;clear nr0 nr1 hXn htg;subst eA8;go_upto_region 13 with(go_at_call 91;(with_reducible refine(qrl HI (zH ⟨rfl,zb _ _⟩) HM HNX HWELL HT).mono ?_);rintro e w9 ⟨y,hy,gr,ok,rfl,hb,hsb,hbad,hok⟩;have HY:=zH hy;have HB9:=zH hb;have HSB:=zH hsb;have HBAD:=zH hbad;have HOK:=zH hok;clear hy hb hsb hbad hok)
    have hyx:X[tg]=y:=by
     have:=HY.out;rw[Xc htX]at this;exact Option.some.inj this
    have HYX:=zH hyx;clear hyx q0 q1 q2 q3 q4 q5 q6 v0;cases ok
    ·go_wp2_with fail
     try rw[Exit.noGoto_ret]
     go_ret3
     exact qan (HW.out.trans ((HNX.out.inv.below.trans HB9.out).mono (Xh HZ.out))) (HNX.out.bad HM.out HWELL.out hp htX (by have:=HMEM.out;rw[HTG.out]at this;exact this) (by rw[HYX.out];exact HBAD.out (by simp)))
    ·obtain⟨x',hx',ho,hc,h1,h2⟩:=HOK.out (by simp);have HX':=zH hx';have HO9:=zH ho;have HC9:=zH hc;have H12:=zH (And.intro h1 h2);clear hx' ho hc h1 h2 HOK HBAD;have HSTEP:Hid ((gr=true→p<tg)→js m f w1.heap.size g nC R p (q+1) w1 yst L NL A7 (some adN) c7 c8 (X.set tg x') w9):=zH (fun hgr=>
      HNX.out.step (zn _) HM.out HWELL.out hp hq HTG.out htX HX'.out HB9.out (by rw[HYX.out];exact HSB.out) HO9.out (by rw[HYX.out];exact HC9.out) (by rw[HYX.out];exact H12.out.1) (by rw[HYX.out];exact H12.out.2) hgr)
     cases gr
     ·have HNX2:=zH (HSTEP.out (fun e=>by cases e));go_wp2_with fail
      go_roundg (gk - 1)
      case rel=>exact⟨q+1,X.set tg x',by omega,by go_num,rfl,HNX2⟩
      case measure=>omega
     ·by_cases hle:tg≤p
      ·have HAG:Hid (kf (zz m.classes).length ((X.set tg x').map zr.shp)<R∧ZS m f w1.heap.size g nC R w1 (X.set tg x') w9):=zH (by
        obtain⟨S',e1,e2,e3,_,e5⟩:=HNX.out.come (tg:=tg) (gr:=true) (zn _) HM.out HWELL.out hp htX (by have:=HMEM.out;rw[HTG.out]at this;exact this) HX'.out HB9.out HO9.out (by rw[HYX.out];exact HC9.out);exact⟨by rw[e1];exact e3 rfl,e5⟩)
       have hle2:(tg:Int)≤(p:Int):=by omega
       go_wp2_with fail
       go_roundg (kf (zz m.classes).length ((X.set tg x').map zr.shp))
       case rel=>exact⟨X.set tg x',rfl,zH (HAG.out.2.lower (zn _))⟩
       case measure=>exact HAG.out.1
      ·have HNX2:=zH (HSTEP.out (fun _=>by omega));have hle2:¬(tg:Int)≤(p:Int):=by omega
       go_wp2_with fail
       go_roundg (gk - 1)
       case rel=>exact⟨q+1,X.set tg x',by omega,by go_num,rfl,HNX2⟩
       case measure=>omega
def qrb(m:za)(w:World)(e:Ending)(w':World):Prop:=∃(A:Option Addr) (n c:Nat) (f pc er:Int),e= .returned (.tuple #[.slice A n c,.int .i64 f,.int .i64 pc,.int .i64 er])∧Below w.heap.size w w'∧(er=0∨er=4)∧(¬er=0→∀a,Jy m a=false)∧
 (er=0→∃XS,n=m.methods.length∧XS.length=n∧w'.ownsRow w.heap.size 73 1 (.slice A n c) n (Ys XS)∧Qm w' (.slice A n c) XS∧(∀p ∈XS,w.heap.size≤p.1∧JG w.heap.size p.2)∧∀(i:Nat) p,XS[i]? =some p→ZQ m (i:Int) (p.2.map zr.shp))
theorem qmx{m:za}{x:zh}{f:Nat}{h:zi}{w0 w:World}(HI:Hid (zm w0 w0.heap.size h m))(HX:Hid (Below w0.heap.size w0 w))(HM:Hid (zN m))(HG:Hid (m.methods[f]? =some x)):
  Calls Tryz.prog 50 #[zp h m,.int .i64 f] w (q6m m f w):=qii m x f h w (HI.out.now HX.out) HM.out HG.out
set_option maxHeartbeats 3200000 in
theorem qgy(m:za)(h:zi)(w:World)(H:zm w w.heap.size h m)(hm:zN m)(hml:m.methods.length≤1000):
  Calls Tryz.prog 22 #[zp h m] w (qrb m w):=by
 obtain⟨i0,hi,hz0,hz1,hz2⟩:=jU qhp;have HW:=zH ((zb w.heap.size w).alloc (zn _) (zg h m));have HI:=zH (H.now HW.out);have HM:=zH hm;have HBX:=zH (ql w h m);have HZ:Hid (w.heap.size<(w.alloc (zg h m)).heap.size):=zH (by simp);clear H hm;go_enter Tryz.func22,Tryz.ntmps22;go_upto_region 1 with fail
 generalize w.alloc (zg h m)=w1 at*
 obtain⟨q0,q1,q2,q3,q4,q5,q6⟩:=HBX.out;go_wp2_with fail
 clear q0 q1 q2 q3 q4 q5 q6;go_loopw [2,13] (fun v i wr=>∃(k:Nat) (XS:List (Nat×List zr)),k≤m.methods.length∧i= .int .i64 k∧Hid (XS.length=k)∧Hid (wr.ownsRow w1.heap.size 73 1 v k (Ys XS))∧Hid (Below w1.heap.size w1 wr)∧Hid (Qm wr v XS)∧Hid (∀p ∈XS,w1.heap.size≤p.1∧JG w1.heap.size p.2)∧Hid (∀(i:Nat) p,XS[i]? =some p→ZQ m (i:Int) (p.2.map zr.shp))) (fun _ i _=>m.methods.length - (intOf i).toNat)
 case atStart=>exact⟨0,[],by omega,rfl,zH rfl,zH (XQ _ _ _ _),zH (zb _ _),zH ⟨fun _ h=>by simp at h,fun _ h=>by simp at h,by simp,fun g h=>by simp[Value.ownBlock]at h⟩,zH (fun p h=>by simp at h),zH (fun i p h=>by simp at h)⟩
 case round=>
  obtain⟨k,XS,hk,rfl,HL,HO,HX,HE,HP,HF⟩:=hrel;obtain⟨q0,q1,q2,q3,q4,q5,q6⟩:=HBX.out.keep HX.out HZ.out;have hsz:=HX.out.size;by_cases hlt:k<m.methods.length
  ·obtain⟨x,hx⟩:∃x,m.methods[k]? =some x:=⟨_,Xc hlt⟩
   have HG:=zH hx;have HKL:=zH hlt;clear hx;go_upto_region 5 with(go_at_call 50;(with_reducible refine(qmx HI HX HM HG).mono ?_);rintro e w4 ⟨As,ns,cs,pc,ok,rfl,hb,hno,hgd⟩;have HO4:=zH (zT HO.out hb (zL HO.out));have HX4:=zj HX hb;have HE4:=zH (HE.out.below (zL HO.out) hb);have HGD:=zH hgd;have HNO:=zH hno;have hsz4:=HX4.out.size;clear hb hgd hno)
   cases ok
   ·go_wp2_with fail
    refine Xl (v:= .tuple #[.slice none 0 0,.int .i64 k,.int .i64 pc,.int .i64 4]) (by simp[results,Tryz.results22,go_sem]) rfl ?_;exact⟨none,0,0,k,pc,4,rfl,HW.out.trans (HX4.out.mono HW.out.size),.inr rfl,fun _=>qhc HKL.out (HNO.out (by simp)),fun e=>by cases e⟩
   ·obtain⟨g,X,hA,hS,hc,hgb,hout,hnew,hfound⟩:=HGD.out (by simp);clear HGD HNO;subst hA hS hc;have HG0:Hid (∀p ∈XS,p.1<g):=zH (fun p hp=>Xj (HE.out.outs p hp).blk.lt hgb);have HGV:Hid (∀b,Value.ownBlock u2=some b→b<g):=zH (fun b e=>Xj (zL HO.out b e) hgb);have HQ:=zH hout;have HFO:=zH hfound;have HPg:Hid (w1.heap.size≤g∧JG w1.heap.size X):=zH ⟨Xd hsz hgb,hnew.more hsz⟩;clear hout hnew hfound hgb;go_wp2_with(at_builtin;refine qmd rfl _ _ 31 rfl w1.heap.size 73 i0 24 Tryz.underlying31 hi hz0 hz1 hz2 _ k (Ys XS) rfl (HO4.out.alloc _) (HE4.out.dry.below (zL HO4.out) ((zb _ _).alloc (zn _) _)) ⟨w4.heap.size,0,none⟩ _ _ _ _ rfl (cell_one_new w4 _ _ 0 _ rfl) (by unfold maxLen;omega) (by omega) (by simp;omega) _ rfl ?_;intro g9 c9 w6 hown hgrow hor hlt9 hdry;have HX6:=zH (jV (HX4.out.alloc hsz4 _) (HO4.out.alloc _) (by simp;omega) hgrow);have HO6:=zH hown;have HE6:=zH ((HE4.out.below (zL HO4.out) ((zb _ _).alloc (zn _) _)).snoc (HQ.out.keep ((zb _ _).alloc (zn _) _)) HG0.out HGV.out hgrow (hor.imp id (fun e=>Nat.le_of_eq e.symm)) hdry);clear hown hgrow hor hdry)
    go_roundw;case rel=>
     refine⟨k+1,XS++[(g,X)],by omega,by go_num,zH (by rw[Xe,HL.out];rfl),zH (by unfold Ys;rw[XY];exact HO6.out),HX6,HE6,zH (fun p hp=> ?_),zH (fun i p hi=> ?_)⟩
     ·rcases Xn.mp hp with q|q
      ·exact HP.out p q
      ·simp at q;subst q;exact HPg.out
     ·rcases Xk i XS.length with q|q
      ·rw[XN q]at hi;exact HF.out i p hi
      ·rw[XP q]at hi;have hiz:i - XS.length=0:=by
        rcases Wo (i - XS.length)with z|z
        ·exact z
        ·rw[Xv (by simp;omega)]at hi;cases hi
       rw[hiz]at hi;simp at hi;subst hi;have hik:i=k:=by have:=HL.out;omega
       subst hik;exact HFO.out
    case measure=>simp[intOf];omega
  ·have e:k=m.methods.length:=by omega
   subst e;obtain⟨Ae,ce,he⟩:∃A c,u2= .slice A m.methods.length c:=by
    rcases Zk HO.out with⟨e1,hz⟩|⟨g,c,e1,_,_⟩
    ·exact⟨none,0,by rw[e1,hz]⟩
    ·exact⟨_,c,e1⟩
   subst he;go_wp2_with fail
   refine Xl (v:= .tuple #[.slice Ae m.methods.length ce,.int .i64 0,.int .i64 0,.int .i64 0]) (by simp[results,Tryz.results22,go_sem]) rfl ?_;exact⟨Ae,m.methods.length,ce,0,0,0,rfl,HW.out.trans (HX.out.mono HW.out.size),.inl rfl,fun q=>absurd rfl q,fun _=>⟨XS,rfl,HL.out,ja HO.out HW.out.size,HE.out,fun p hp=>⟨Xd HW.out.size (HP.out p hp).1,(HP.out p hp).2.more HW.out.size⟩,HF.out⟩⟩
end Go.Proofs.YtcmiljnbmgkdnaaGreat
