import Derived.Test.YtnfeiginmngknaaGreatFZ34
import Derived.WalkMore
import Derived.Test.YtnfeiginmngknaaGreatFZ33
import Derived.Test.YtnfeiginmngknaaGreatFZ29
import Derived.Test.YtnfeiginmngknaaGreatFZ21
namespace Go.Proofs.YtnfeiginmngknaaGreat
set_option maxRecDepth 100000
set_option linter.unusedVariables false
set_option linter.unusedSimpArgs false
open Go.ChangeShapes Go.WideShapes Go.ChangeAt Go.RowKit
theorem qjk{w:World}{g:Nat}{X:List zg}(h:qJ w g X)(hl:X.length<=1000000):zd vd 2 w w.heap.size (some ⟨g,0,none⟩) X.length (X.map zg.shp):=
 ⟨by grind,by omega,fun i s hi=>by
  rw[XF]at hi;rcases Xl i X.length with q|q
  ·rw[Xc q]at hi;simp at hi;subst hi;have ea:(Addr.add ⟨g,0,none⟩ (i*2))=⟨g,i*2,none⟩:=by
    unfold Addr.add;grind
   refine⟨_,rfl,h.blk.lt,?_⟩;rw[ea];exact⟨h.seen_at q,X[i].A,X[i].c,h.stack_at q,h.row _ (Xd q)⟩
  grind⟩
def bX(XS:List (Nat×List zg)):List (List zq):=XS.map fun p=>p.2.map zg.shp
theorem qkf{w:World}{B e n c:Nat}{A:Option Addr}{XS:List (Nat×List zg)}(ho:w.ownsRow B e 1 (.slice A n c) n (aN XS))(hn:XS.length=n)(h:∀p ∈XS,qJ w p.1 p.2)(hl:∀p ∈XS,p.2.length<=1000000):
  zd (zM vd 2) 1 w w.heap.size A c (bX XS):=by
 have hm:(bX XS).length=n:=by unfold bX;grind
 rcases Je ho with⟨e1,hz⟩|⟨g,c',e1,h1,h2⟩
 ·injection e1 with e1 e2 e3;subst e1 e3;have:bX XS=[]:=(by grind)
  rw[this];exact⟨zn _,by omega,qD.nil⟩
 ·injection e1 with e1 e2 e3;subst e1 e3;obtain⟨hb,hc⟩:=lZ ho;refine⟨by omega,h2,fun i S hi=> ?_⟩;unfold bX at hi;rw[XF]at hi;rcases Xl i XS.length with q|q
  ·rw[Xc q]at hi;simp at hi;subst hi;have hv:(aN XS)[i]? =some (.slice (some ⟨XS[i].1,0,none⟩) XS[i].2.length XS[i].2.length):=by unfold aN;grind
   obtain⟨c0,hg⟩:=hc i _ hv;have ea:(Addr.add ⟨g,0,none⟩ (i*1))=⟨g,i,none⟩:=by
    unfold Addr.add;grind
   refine⟨_,rfl,hg,_,_,?_,qjk (h _ (Xd q)) (hl _ (Xd q))⟩
   grind
  grind
theorem qJ.far{w:World}{g g':Nat}{X X':List zg}{p:Addr}(v:Value)(h':qJ w g' X')(h:qJ w g X)(hp:p.block=g')(hg:¬g=g'):qJ (w.setCell p v) g X:=by
 have hz:(w.setCell p v).heap.size=w.heap.size:=by simp
 have hf:∀q:Addr,q.block≠g'->(w.setCell p v).cell? q=w.cell? q:=(by grind [World.cell?_setCell_far])
 refine⟨?_,fun x hx=>pM (h.row x hx) (by omega) hf (fun j hj=>h'.ty_apart (h.row x hx) hj)⟩;have hb:=h.blk;unfold zm at hb⊢
 grind [heap_setCell_other]
def jO(m:za)(w:World)(A:Option Addr)(c:Nat)(l:List (List zq)):Prop:=zd (zM vd 2) 1 w w.heap.size A c l/\ZS 64 l/\l.length=m.methods.length/\∀(i:Nat) S,l[i]? =some S->fD m (i:Int) S
def qfa(n:Nat)(w:World)(e:Ending)(w':World):Prop:=∃g,e= .returned (.slice (some ⟨g,0,none⟩) (n+1) (n+1))/\w.heap.size<=g/\kW w' w.heap.size g (⟨true,none,0,[]⟩::List.replicate n ⟨false,none,0,[]⟩)/\Below w.heap.size w w'
theorem qcg{w:World}{B g n:Nat}(h:qJ w g (⟨true,none,0,[]⟩::List.replicate n ⟨false,none,0,[]⟩))(hB:B<=g):kW w B g (⟨true,none,0,[]⟩::List.replicate n ⟨false,none,0,[]⟩):=by
 have hall:∀i (hi:i<(⟨true,none,0,[]⟩::List.replicate n (⟨false,none,0,[]⟩:zg)).length),((⟨true,none,0,[]⟩::List.replicate n (⟨false,none,0,[]⟩:zg))[i]).stack=[]:=(by grind)
 exact⟨h,hB,(by grind),(by grind)⟩
theorem q5s(n:Nat)(hn:n<=1000)(w:World):Calls Tryz.prog 104 #[.int .i64 ((n+1:Nat):Int)] w (qfa n w):=by
 obtain⟨M9,hi,hz0,hz1,hz2⟩:=jJ R7;obtain⟨k,hk⟩:=zj (n+1);have HK:=zH hk;have hk0:(k:Int)>0:=by omega
 rw[hk];clear hk;go_enter Tryz.func104,Tryz.ntmps104;go_upto_region 2 with(at_make;refine wpList_make_full _ rfl _ _ 79 rfl w.heap.size 81 M9 (.agg #[.bool false,.slice none 0 0]) 2 Tryz.underlying79 hi hz0 hz1 .i64 .i64 _ _ k rfl rfl rfl rfl (by rw[hz2];have:=HK.out;omega) (by unfold maxLen;have:=HK.out;omega) (zn _) ?_;intro w2 hown hgrow;have qm:=zH hown;have HB2:=zH ((zb w.heap.size w).grown hgrow (zn _) (by grind));clear hown hgrow)
 have kx:Hid (qJ w2 w.heap.size (⟨false,none,0,[]⟩::List.replicate n ⟨false,none,0,[]⟩)):=zH (by
  have h1:=TA qm.out;rw[PW,<-HK.out]at h1;exact⟨h1,(by grind [va])⟩)
 have s0:=kx.out.seen_at (i:=0) (by simp)
 have f0:=kx.out.blk.free 0;have hk1:0<k:=by omega
 go_wp2_with fail
 go_ret;refine⟨w.heap.size,(by rw[HK.out];rfl),zn _,qcg (TE (n:=n) kx.out) (zn _),HB2.out.setCell (p:=⟨w.heap.size,0,none⟩) (zn _) _⟩
theorem qan{k n:Nat}{w:World}(HK:Hid (k=n+1))(hn:n<=1000):Calls Tryz.prog 104 #[.int .i64 (k:Int)] w fun e w'=>∃g,e= .returned (.slice (some ⟨g,0,none⟩) k k)/\w.heap.size<=g/\kW w' w.heap.size g (⟨true,none,0,[]⟩::List.replicate n ⟨false,none,0,[]⟩)/\Below w.heap.size w w':=by
 rw[HK.out];exact q5s n hn w
theorem qhk{m:za}{h:zh}{f pc:Int}{st L:List (Int×Int)}{NL:List Int}{er:Int}{A:Option Addr}{cap n:Nat}{w0 w:World}(HI:Hid (zr w0 w0.heap.size h m))(HX:Hid (Below w0.heap.size w0 w))(HM:Hid (zP m))(HN:Hid (st.length=n))(HS:Hid (zd zf 2 w w.heap.size A cap st))(hs:n<=4000)(HR:Hid (zI m f pc st=⟨L,NL,er⟩)):
  Calls Tryz.prog 105 #[zv h m,.int .i64 f,.int .i64 pc,.slice A n cap] w fun e w'=>∃A c A' c',e= .returned (.tuple #[.slice A L.length c,.slice A' NL.length c',.int .i64 er])/\zd zf 2 w' w'.heap.size A c L/\zd zu 1 w' w'.heap.size A' c' NL/\(∀ad,A=some ad->w.heap.size<=ad.block)/\(∀ad,A'=some ad->w.heap.size<=ad.block)/\Below w.heap.size w w':=by
 obtain rfl:=HN.out;have H:=Ug m f pc st A cap h w (HI.out.now HX.out) HM.out HS.out hs;rw[HR.out]at H;exact H
def Ll(m:za)(f:Nat)(w:World)(e:Ending)(w':World):Prop:=∃(A:Option Addr) (n c:Nat) (pc:Int) (ok:Bool),e= .returned (.tuple #[.slice A n c,.int .i64 pc,.bool ok])/\Below w.heap.size w w'/\(ok=false->∀R,vL m (f:Int) R=false)/\
 (ok=true->∃g X,A=some ⟨g,0,none⟩/\n=X.length/\c=X.length/\w.heap.size<=g/\qJ w' g X/\iG w.heap.size X/\Yx m (f:Int) (X.map zg.shp))
theorem SK{m:za}{f:Nat}{w w':World}{pc:Int}(hb:Below w.heap.size w w')(h:∀R,vL m (f:Int) R=false):Ll m f w (.returned (.tuple #[.slice none 0 0,.int .i64 pc,.bool false])) w':=⟨none,0,0,pc,false,rfl,hb,fun _=>h,fun e=>by cases e⟩
theorem qfl{m:za}{h:zh}{f B g nC R p q tg n:Nat}{w0 w1 w:World}{st L:List (Int×Int)}{NL:List Int}{A7 A8:Option Addr}{c7 c8:Nat}{X:List zg}(HI:Hid (zr w0 w0.heap.size h m))(HB:Hid (B=w1.heap.size/\Below w0.heap.size w0 w1))(HM:Hid (zP m))(HN:Hid (vE m f B g nC R p q w1 st L NL A7 A8 c7 c8 X w))(HS:Hid (gV m f p nC st L NL))(HT:Hid (p<nC/\nC<=1000/\tg<X.length/\X.length=n)):
  Calls Tryz.prog 106 #[.slice h.A0 m.classes.length h.c0,.slice (some ⟨g,0,none⟩) n n,.int .i64 tg,.slice A7 L.length c7] w fun e w'=>∃y,X[tg]? =some y/\LK (zy m.classes) B g tg X y L w e w':=by
 obtain⟨hp,hc,QC,hn⟩:=HT.out;obtain⟨hB,NJ⟩:=HB.out;have hBz:B<=w.heap.size:=by rw[hB];exact HN.out.inv.below.size
 have hb:Below w0.heap.size w0 w:=NJ.trans (HN.out.inv.below.mono (by rw[hB];exact NJ.size));have qlv:=eB HI.out.classes.row;have hml:m.classes.length<=1000:=by have:=HM.out.fits.cl;omega
 have hself:zL (zy m.classes) X[tg].stack X[tg].stack:=by
  have:=HN.out.inv.low.self _ (eF (S:=X.map zg.shp) (i:=tg) (by rw[Xm];exact QC));rw[mf QC]at this;exact this
 have H:=qaq (zy m.classes) h.A0 h.c0 B g tg X X[tg] L A7 c7 w (by grind [kE]) (fun i s hi=>by obtain⟨ad,e,h1,h2⟩:=qlv.below_to (C:=w0.heap.size) hb (zn _) i s hi;exact⟨ad,e,by have:=NJ.size;omega,h2⟩) hBz HN.out.inv.own QC rfl (by rw[HN.out.inv.len];exact hc) HN.out.ty (by have:=HS.out.few;omega)
  (fun ad ax e1 e2 hs hn1 hn2 e3=>((HN.out.far7 hn2 ad e1).2.2 tg QC hn1 ax e2) e3.symm) hself (HN.out.fitsL HM.out HS.out hp)
 rw[kE,hn]at H;exact H.mono (by grind)
set_option maxHeartbeats 12800000 in
theorem q5r(m:za)(x:zl)(f:Nat)(h:zh)(w:World)(H:zr w w.heap.size h m)(hm:zP m)(hx:m.methods[f]? =some x):
  Calls Tryz.prog 56 #[zv h m,.int .i64 f] w (Ll m f w):=by
 have HW:=zH (vU (w:=w) (h:=h) (m:=m));have HBX:=zH (qd w h m);have HZ:Hid (w.heap.size<(w.alloc (ze h m)).heap.size):=zH (by simp);have HI:=zH (H.now HW.out);have HM:=zH hm;have HG:=zH hx;have hle:=H.methods.le;have hcap:=H.methods.cap;have hxm:=hm.method (Xr hx);have hxl:x.code.length<=1000:=by have:=hxm.fits.cl;omega
 have hxp:=hxm.cp;have hfl:=(Xv.mp hx).1;have hfe:=(Xv.mp hx).2;obtain⟨ad,A4c,j4,ea,hab,hc4⟩:=Ua HI.out hfl;rw[hfe]at hc4;obtain⟨A0,Ab,A2,A3,A4,k0,k1,k2,k3,k4⟩:=h;dsimp only at ea hle hcap;subst ea;have CL:zA m (f:Int)=x:=by unfold zA;grind
 have YJ:=zH CL;obtain⟨nC,MI⟩:∃n,x.code.length=n:=⟨_,rfl⟩
 obtain⟨n1,hn1⟩:∃n,nC=n+1:=(by simp_all)
 have HL:=zH hn1;have iY:=zH MI;have qld:n1<=1000:=by omega
 have hnl:nC<=1000:=by omega
 rw[MI]at hc4;clear H hm hx hxm hfe CL hn1 MI hxp hxl;go_enter Tryz.func56,Tryz.ntmps56;go_wp2_with fail
 go_step3
 change Code.wp _ _ _ _ (w.alloc (ze ⟨A0,Ab,A2,some ad,A4,k0,k1,k2,k3,k4⟩ m));generalize w.alloc (ze ⟨A0,Ab,A2,some ad,A4,k0,k1,k2,k3,k4⟩ m)=w1 at*
 obtain⟨q0,q1,q2,q3,q4,q5,q6⟩:=HBX.out;go_wp2_with(go_at_call 104;(with_reducible refine(qan HL qld).mono ?_);rintro e w2 ⟨g,rfl,hg,ho,hb⟩;have qm:=zH ho;have HB2:=zH hb;have BD:=zH hg;clear ho hb hg)
 go_step3
 go_wp2_with fail
 have vJ:Hid (VI m f w1.heap.size g nC (qx (zy m.classes).length ((⟨true,none,0,[]⟩::List.replicate n1 (⟨false,none,0,[]⟩:zg)).map zg.shp)) w1 (⟨true,none,0,[]⟩::List.replicate n1 (⟨false,none,0,[]⟩:zg)) w2):=zH ⟨by rw[HL.out];simp,zn _,qm.out,by
  have e:((⟨true,none,0,[]⟩::List.replicate n1 (⟨false,none,0,[]⟩:zg)).map zg.shp)=⟨true,[]⟩::List.replicate n1 (⟨false,[]⟩:zq):=by simp[zg.shp]
  rw[e];exact TR (by rw[YJ.out,iY.out,HL.out]),HB2.out,fun s hs=>by
  have e:((⟨true,none,0,[]⟩::List.replicate n1 (⟨false,none,0,[]⟩:zg)).map zg.shp)=⟨true,[]⟩::List.replicate n1 (⟨false,[]⟩:zq):=by simp[zg.shp]
  rw[e]at hs;rcases XZ.mp hs with rfl|hs
  ·exact⟨(fun t ht=>by cases ht),(fun z=>by cases z)⟩
  ·rw[(List.mem_replicate.mp hs).2];exact⟨(fun t ht=>by cases ht),fun _=>rfl⟩⟩
 have HBB:Hid (w1.heap.size=w1.heap.size/\Below w1.heap.size w1 w1):=zH ⟨rfl,zb _ _⟩;have HQ:Hid (∀W,Below w1.heap.size w1 W->W.cell? ⟨w.heap.size,0,none⟩=some (.slice A0 m.classes.length k0)/\W.cell? ⟨w.heap.size,1,none⟩=some (.slice Ab m.statics.length k1)/\W.cell? ⟨w.heap.size,2,none⟩=some (.slice A2 m.ints.length k2)/\W.cell? ⟨w.heap.size,3,none⟩=some (.slice (some ad) m.methods.length k3)/\W.cell? ⟨w.heap.size,4,none⟩=some (.slice A4 m.entries.length k4)/\W.cell? ⟨w.heap.size,5,none⟩=some (.int .i64 m.stack)/\W.cell? ⟨w.heap.size,6,none⟩=some (.int .i64 m.heap)):=zH (fun W hW=>HBX.out.keep hW HZ.out);generalize qx (zy m.classes).length ((⟨true,none,0,[]⟩::List.replicate n1 (⟨false,none,0,[]⟩:zg)).map zg.shp)=R0 at*
 generalize(⟨true,none,0,[]⟩::List.replicate n1 (⟨false,none,0,[]⟩:zg))=X0 at*
 clear q0 q1 q2 q3 q4 q5 q6 hc4 hab qm HB2;go_loopg [4] R0 (fun R s4 wr=>∃X,s4= .slice (some ⟨g,0,none⟩) nC nC/\Hid (VI m f w1.heap.size g nC R w1 X wr))
 case atStart=>grind
 case round=>
  clear vJ;obtain⟨X,rfl,vJ⟩:=hrel;obtain⟨R,hR⟩:∃R,R=gk:=⟨_,rfl⟩
  subst hR;obtain⟨wo,hwo⟩:∃W,W=wr:=⟨_,rfl⟩
  subst hwo;go_wp2_with fail
  go_loopg [4,26] nC (fun kk s4 i wq=>∃(p:Nat) (X:List zg),p+kk=nC/\i= .int .i64 p/\s4= .slice (some ⟨g,0,none⟩) nC nC/\Hid (VI m f w1.heap.size g nC R w1 X wq)/\Hid (∀p':Nat,p'<p->kR m (f:Int) (X.map zg.shp) (p':Int)=true))
  case atStart=>exact⟨0,X,by omega,rfl,rfl,vJ,zH (by omega)⟩
  case round=>
   clear vJ;obtain⟨p,X,hpk,rfl,rfl,vJ,FJ⟩:=hrel;obtain⟨km,Ym⟩:∃R,R=gk:=⟨_,rfl⟩
   subst Ym;by_cases hp:p<nC;rotate_left
   ·have hki:¬(p:Int)<(nC:Int):=by omega
    have CE:Hid (p=nC):=zH (by omega);go_wp2_with fail
    try rw[Exit.noGoto_ret]
    go_ret3
    refine⟨some ⟨g,0,none⟩,nC,nC,0,true,rfl,HW.out.trans (vJ.out.below.mono (Xg HZ.out)),(fun e=>by cases e),fun _=>⟨g,X,rfl,vJ.out.len.symm,vJ.out.len.symm,Xe (Xg HZ.out) vJ.out.own.base,vJ.out.own.out,vJ.out.own.news.more (Xg HZ.out),?_,fun Q hQ=>vJ.out.low.over hQ,vJ.out.low.small,vJ.out.flat⟩⟩;exact vJ.out.low.done (by rw[Xm,vJ.out.len,HL.out];omega) (fun pc hpc=>FJ.out pc (by rw[Xm,vJ.out.len]at hpc;rw[CE.out];exact hpc))
   have hki:(p:Int)<(nC:Int):=by omega
   have ut:p<X.length:=by rw[vJ.out.len];exact hp
   have c0:=vJ.out.own.out.seen_at ut;have c1:=vJ.out.own.out.stack_at ut;have hpn:zx (X.map zg.shp) (p:Int)=X[p].shp:=mf ut;have jD:=zH (vJ.out.own.out.row _ (Xd ut));have hsm:X[p].stack.length<=8:=vJ.out.low.small X[p].shp (X9.mpr ⟨_,Xd ut,rfl⟩);obtain⟨⟨ys,yA,yc,VT⟩,hy⟩:∃y,X[p]=y:=⟨_,rfl⟩
   rw[hy]at c0 c1 hpn jD hsm;dsimp only[zg.shp]at c0 c1 hpn jD hsm;have bF:=zH hpn;clear hpn hy;have fU:Hid (Below wr.heap.size wr (wr.alloc (.cells #[.bool ys,.slice yA VT.length yc] 81))):=zH (zk);have ou:=zH (zm.new wr [.bool ys,.slice yA VT.length yc] 81);go_upto_region 5 with fail
   change Code.wp _ _ _ _ (wr.alloc (.cells #[.bool ys,.slice yA VT.length yc] 81));have ou:Hid (zm (wr.alloc (.cells #[.bool ys,.slice yA VT.length yc] 81)) wr.heap.size [.bool ys,.slice yA VT.length yc] 81):=ou;clear c0 c1;generalize wr.alloc (.cells #[.bool ys,.slice yA VT.length yc] 81)=w3 at*
   have b0:w3.cell? ⟨wr.heap.size,0,none⟩=some (.bool ys):=ou.out.cells 0 _ rfl;have b1:w3.cell? ⟨wr.heap.size,1,none⟩=some (.slice yA VT.length yc):=ou.out.cells 1 _ rfl;have GY:=zH (vJ.out.keep (zn _) fU.out);have zp:=zH GY.out.below;by_cases hse:ys=true;rotate_left
   ·have tZ:ys=false:=by simpa using hse
    subst tZ;have qm7:Hid (∀p':Nat,p'<p+1->kR m (f:Int) (X.map zg.shp) (p':Int)=true):=zH (fun p' h=>by
     rcases Xl p' p with z|z
     ·exact FJ.out p' z
     ·obtain rfl:p'=p:=by omega
      unfold kR;rw[bF.out];rfl)
    clear hse;go_wp2_with fail
    go_roundg (km - 1)
    case rel=>exact⟨p+1,X,by omega,by go_num,rfl,GY,qm7⟩
    case measure=>omega
   subst hse;obtain⟨q0,q1,q2,q3,q4,q5,q6⟩:=HQ.out _ zp.out;obtain⟨⟨L,NL,er⟩,hrs⟩:∃r,zI m (f:Int) (p:Int) VT=r:=⟨_,rfl⟩
   have kK:=zH hrs;have q2f:=zH (AR zf.keeps jD.out fU.out);clear hrs;go_upto_region 7 with(go_at_call 105;(with_reducible refine(qhk HI zp HM (zH rfl) q2f (Xe hsm (by decide)) kK).mono ?_);rintro e w6 ⟨A7,c7,A8,c8,rfl,hs7,QW,hn7,Om,hb⟩;have H7:=zH hs7;have H8:=zH QW;have nU:=zH hn7;have HN8:=zH Om;have Yl:=zH hb;clear hs7 QW hn7 Om hb)
   clear q0 q1 q2 q3 q4 q5 q6 b0 b1;have hpm:p<(X.map zg.shp).length:=by rw[Xm];exact ut
   have yF:=zH hpm;clear hpm;by_cases her:er=0;rotate_left
   ·have hne:(er !=0)=true:=by simpa using her
    have FD:=zH her;clear her;go_wp2_with fail
    rw[Exit.noGoto_ret];go_ret3
    exact SK (HW.out.trans ((zD zp Yl).mono (Xg HZ.out))) (vJ.out.low.none_err HM.out yF.out (by rw[bF.out]) (by rw[bF.out];show ¬(zI m (f:Int) (p:Int) VT).err=0;rw[kK.out];exact FD.out))
   subst her;have xP:Hid (gV m f p nC VT L NL):=zH (by
    have:=PO HM.out HG.out (by rw[iY.out];exact hp) kK.out
    rwa [iY.out]at this)
   have qO:Hid (vE m f w1.heap.size g nC R p 0 w1 VT L NL A7 A8 c7 c8 X w6):=zH (qgr GY.out (zn _) Yl.out bF.out FJ.out H7.out H8.out nU.out HN8.out);have hm1:=H8.out.le;have hm2:=H8.out.cap;have CS:=H7.out.le;have hm4:=H7.out.cap;clear H7 H8 nU HN8;go_wp2_with fail
   obtain⟨wi,tQ⟩:∃W,W=wr:=⟨_,rfl⟩
   subst tQ;go_loopg [4,49] NL.length (fun kk s4 i wq=>∃(q:Nat) (X:List zg),q+kk=NL.length/\i= .int .i64 q/\s4= .slice (some ⟨g,0,none⟩) nC nC/\Hid (vE m f w1.heap.size g nC R p q w1 VT L NL A7 A8 c7 c8 X wq))
   case atStart=>exact⟨0,X,by omega,rfl,rfl,qO⟩
   case round=>
    clear qO vJ GY FJ yF bF zp q2f fU ou jD ut Yl;clear X;obtain⟨q,X,hqk,rfl,rfl,qO⟩:=hrel;by_cases hq:q<NL.length;rotate_left
    ·have qkq:¬(q:Int)<(NL.length:Int):=by omega
     have HQE:Hid (q=NL.length):=zH (by omega);have kI:Hid (∀p':Nat,p'<p+1->kR m (f:Int) (X.map zg.shp) (p':Int)=true):=zH (by
      have h:=qO.out;rw[HQE.out]at h;exact h.place xP.out)
     have vJ:=zH qO.out.inv;go_wp2_with fail
     go_roundg (km - 1)
     case rel=>exact⟨p+1,X,by omega,by go_num,rfl,vJ,kI⟩
     case measure=>omega
    have qkq:(q:Int)<(NL.length:Int):=by omega
    obtain⟨bq,Gr,MS,v0⟩:=qO.out.nx.row.at_ hq;have v0:wr.cell? (bq.add q)=some (.int .i64 NL[q]):=by have:=v0;rw[Xq]at this;exact this
    obtain⟨GR,nr1⟩:=xP.out.next _ (Xd hq);have q2s:=zH (Xd hq);obtain⟨tg,QC⟩:=Xj GR;rw[QC]at v0;have NY:=zH QC;have OQ:=qO.out.inv.len;have jv:tg<X.length:=by omega
    have HT:Hid (p<nC/\nC<=1000/\tg<X.length/\X.length=nC):=zH ⟨hp,hnl,jv,OQ⟩;have HXN:=zH OQ;obtain⟨q0,q1,q2,q3,q4,q5,q6⟩:=HQ.out _ qO.out.inv.below;clear GR nr1 OQ QC;subst Gr;go_upto_region 13 with(go_at_call 106;(with_reducible refine(qfl HI (zH ⟨rfl,zb _ _⟩) HM qO xP HT).mono ?_);rintro e w9 ⟨y,hy,gr,ok,rfl,hb,hsb,hbad,hok⟩;have HY:=zH hy;have QY:=zH hb;have QV:=zH hsb;have HBAD:=zH hbad;have vQ:=zH hok;clear hy hb hsb hbad hok)
    have hyx:X[tg]=y:=by
     have:=HY.out;rw[Xc jv]at this;exact Option.some.inj this
    have xK:=zH hyx;clear hyx q0 q1 q2 q3 q4 q5 q6 v0;cases ok
    ·go_wp2_with fail
     try rw[Exit.noGoto_ret]
     go_ret3
     exact SK (HW.out.trans ((qO.out.inv.below.trans QY.out).mono (Xg HZ.out))) (qO.out.bad HM.out xP.out hp jv (by have:=q2s.out;rw[NY.out]at this;exact this) (by rw[xK.out];exact HBAD.out (by simp)))
    ·obtain⟨x',hx',ho,hc,h1,h2⟩:=vQ.out (by simp);have HX':=zH hx';have xA:=zH ho;have HC9:=zH hc;have H12:=zH (And.intro h1 h2);clear hx' ho hc h1 h2 vQ HBAD;have q2o:Hid ((gr=true->p<tg)->vE m f w1.heap.size g nC R p (q+1) w1 VT L NL A7 (some bq) c7 c8 (X.set tg x') w9):=zH (fun hgr=>
      qO.out.step (zn _) HM.out xP.out hp hq NY.out jv HX'.out QY.out (by rw[xK.out];exact QV.out) xA.out (by rw[xK.out];exact HC9.out) (by rw[xK.out];exact H12.out.1) (by rw[xK.out];exact H12.out.2) hgr)
     cases gr
     ·have OV:=zH (q2o.out (fun e=>by cases e));go_wp2_with fail
      go_roundg (gk - 1)
      case rel=>exact⟨q+1,X.set tg x',by omega,by go_num,rfl,OV⟩
      case measure=>omega
     ·by_cases hle:tg<=p
      ·have HAG:Hid (qx (zy m.classes).length ((X.set tg x').map zg.shp)<R/\VI m f w1.heap.size g nC R w1 (X.set tg x') w9):=zH (by
        obtain⟨S',e1,e2,e3,_,e5⟩:=qO.out.come (tg:=tg) (gr:=true) (zn _) HM.out xP.out hp jv (by have:=q2s.out;rw[NY.out]at this;exact this) HX'.out QY.out xA.out (by rw[xK.out];exact HC9.out);exact⟨by rw[e1];exact e3 rfl,e5⟩)
       have hle2:(tg:Int)<=(p:Int):=by omega
       go_wp2_with fail
       go_roundg (qx (zy m.classes).length ((X.set tg x').map zg.shp))
       case rel=>exact⟨X.set tg x',rfl,zH (HAG.out.2.lower (zn _))⟩
       case measure=>exact HAG.out.1
      ·have OV:=zH (q2o.out (fun _=>by omega));have hle2:¬(tg:Int)<=(p:Int):=by omega
       go_wp2_with fail
       go_roundg (gk - 1)
       case rel=>exact⟨q+1,X.set tg x',by omega,by go_num,rfl,OV⟩
       case measure=>omega
def qfb(m:za)(w:World)(e:Ending)(w':World):Prop:=∃(A:Option Addr) (n c:Nat) (f pc er:Int),e= .returned (.tuple #[.slice A n c,.int .i64 f,.int .i64 pc,.int .i64 er])/\Below w.heap.size w w'/\(er=0\/er=4)/\(¬er=0->∀a,bW m a=false)/\
 (er=0->∃XS,n=m.methods.length/\XS.length=n/\w'.ownsRow w.heap.size 79 1 (.slice A n c) n (aN XS)/\YB w' (.slice A n c) XS/\(∀p ∈XS,w.heap.size<=p.1/\iG w.heap.size p.2)/\∀(i:Nat) p,XS[i]? =some p->Yx m (i:Int) (p.2.map zg.shp))
theorem qam{m:za}{x:zl}{f:Nat}{h:zh}{w0 w:World}(HI:Hid (zr w0 w0.heap.size h m))(HX:Hid (Below w0.heap.size w0 w))(HM:Hid (zP m))(HG:Hid (m.methods[f]? =some x)):
  Calls Tryz.prog 56 #[zv h m,.int .i64 f] w (Ll m f w):=q5r m x f h w (HI.out.now HX.out) HM.out HG.out
set_option maxHeartbeats 3200000 in
theorem q4f(m:za)(h:zh)(w:World)(H:zr w w.heap.size h m)(hm:zP m)(hml:m.methods.length<=1000):
  Calls Tryz.prog 35 #[zv h m] w (qfb m w):=by
 obtain⟨i0,hi,hz0,hz1,hz2⟩:=jJ P9;have HW:=zH (zk (w:=w) (o:=(ze h m)));have HI:=zH (H.now HW.out);have HM:=zH hm;have HBX:=zH (qd w h m);have HZ:Hid (w.heap.size<(w.alloc (ze h m)).heap.size):=zH (by simp);clear H hm;go_enter Tryz.func35,Tryz.ntmps35;go_upto_region 1 with fail
 generalize w.alloc (ze h m)=w1 at*
 obtain⟨q0,q1,q2,q3,q4,q5,q6⟩:=HBX.out;go_wp2_with fail
 clear q0 q1 q2 q3 q4 q5 q6;go_loopw [2,13] (fun v i wr=>∃(k:Nat) (XS:List (Nat×List zg)),k<=m.methods.length/\i= .int .i64 k/\Hid (XS.length=k)/\Hid (wr.ownsRow w1.heap.size 79 1 v k (aN XS))/\Hid (Below w1.heap.size w1 wr)/\Hid (YB wr v XS)/\Hid (∀p ∈XS,w1.heap.size<=p.1/\iG w1.heap.size p.2)/\Hid (∀(i:Nat) p,XS[i]? =some p->Yx m (i:Int) (p.2.map zg.shp))) (fun _ i _=>m.methods.length - (intOf i).toNat)
 case atStart=>exact⟨0,[],by omega,rfl,zH rfl,zH (XM _ _ _ _),zH (zb _ _),zH ⟨(by grind),(by grind),by simp,fun g h=>by simp[Value.ownBlock]at h⟩,(by grind [zH]),(by grind [zH])⟩
 case round=>
  obtain⟨k,XS,hk,rfl,HL,HO,HX,HE,HP,HF⟩:=hrel;obtain⟨q0,q1,q2,q3,q4,q5,q6⟩:=HBX.out.keep HX.out HZ.out;have hsz:=HX.out.size;by_cases hlt:k<m.methods.length
  ·obtain⟨x,hx⟩:∃x,m.methods[k]? =some x:=(by simp_all)
   have HG:=zH hx;have HKL:=zH hlt;clear hx;go_upto_region 5 with(go_at_call 56;(with_reducible refine(qam HI HX HM HG).mono ?_);rintro e w4 ⟨As,ns,cs,pc,ok,rfl,hb,hno,hgd⟩;have HO4:=kpO HO hb;have HX4:=zi HX hb;have lm:=zH (HE.out.below (vA HO.out) hb);have iN:=zH hgd;have qz:=zH hno;have hsz4:=HX4.out.size;clear hb hgd hno)
   cases ok
   ·go_wp2_with fail
    refine Xk (v:= .tuple #[.slice none 0 0,.int .i64 k,.int .i64 pc,.int .i64 4]) (by simp[results,Tryz.results35,go_sem]) rfl ?_;exact⟨none,0,0,k,pc,4,rfl,zD HW HX4,.inr rfl,fun _=>PS HKL.out (qz.out (by simp)),fun e=>by cases e⟩
   ·obtain⟨g,X,hA,hS,hc,hgb,hout,hnew,CY⟩:=iN.out (by simp);clear iN qz;subst hA hS hc;have qX:Hid (∀p ∈XS,p.1<g):=zH (fun p hp=>Xp (HE.out.outs p hp).blk.lt hgb);have lh:Hid (∀b,Value.ownBlock u2=some b->b<g):=zH (fun b e=>Xp (vA HO.out b e) hgb);have HQ:=zH hout;have lG:=zH CY;have vz:Hid (w1.heap.size<=g/\iG w1.heap.size X):=zH ⟨Xe hsz hgb,hnew.more hsz⟩;clear hout hnew CY hgb;go_wp2_with(at_builtin;refine SE rfl _ _ 35 rfl w1.heap.size 79 i0 24 Tryz.underlying35 hi hz0 hz1 hz2 _ k (aN XS) rfl (HO4.out.alloc _) (lm.out.dry.below (vA HO4.out) (zk)) ⟨w4.heap.size,0,none⟩ _ _ _ _ rfl (cell_one_new w4 _ _ 0 _ rfl) (by unfold maxLen;omega) (by omega) (by simp;omega) _ rfl ?_;intro g9 c9 w6 hown hgrow hor hlt9 CQ;have HX6:=zH (jx (HX4.out.alloc hsz4 _) (HO4.out.alloc _) (by simp;omega) hgrow);have HO6:=zH hown;have HE6:=zH ((lm.out.below (vA HO4.out) (zk)).snoc (HQ.out.keep (zk)) qX.out lh.out hgrow (hor.imp id (fun e=>Nat.le_of_eq e.symm)) CQ);clear hown hgrow hor CQ)
    go_roundw;case rel=>
     refine⟨k+1,XS++[(g,X)],by omega,by go_num,zH (by rw[Xh,HL.out];rfl),zH (by unfold aN;rw[Wc];exact HO6.out),HX6,HE6,zH (fun p hp=> ?_),zH (fun i p hi=> ?_)⟩
     ·rcases Xu.mp hp with q|q
      ·exact HP.out p q
      ·simp at q;subst q;exact vz.out
     ·rcases Xl i XS.length with q|q
      ·rw[XO q]at hi;exact HF.out i p hi
      ·rw[XN q]at hi;have hiz:i - XS.length=0:=by
        rcases Nat.eq_zero_or_pos (i - XS.length)with z|z
        ·exact z
        ·rw[XE (by simp;omega)]at hi;cases hi
       rw[hiz]at hi;simp at hi;subst hi;have hik:i=k:=by have:=HL.out;omega
       subst hik;exact lG.out
    case measure=>simp[intOf];omega
  ·have e:k=m.methods.length:=by omega
   subst e;obtain⟨Ae,ce,he⟩:∃A c,u2= .slice A m.methods.length c:=by
    rcases Je HO.out with⟨e1,hz⟩|⟨g,c,e1,_,_⟩
    ·exact⟨none,0,by rw[e1,hz]⟩
    ·exact⟨_,c,e1⟩
   subst he;go_wp2_with fail
   refine Xk (v:= .tuple #[.slice Ae m.methods.length ce,.int .i64 0,.int .i64 0,.int .i64 0]) (by simp[results,Tryz.results35,go_sem]) rfl ?_;exact⟨Ae,m.methods.length,ce,0,0,0,rfl,zD HW HX,.inl rfl,fun q=>absurd rfl q,fun _=>⟨XS,rfl,HL.out,js HO.out HW.out.size,HE.out,fun p hp=>⟨Xe HW.out.size (HP.out p hp).1,(HP.out p hp).2.more HW.out.size⟩,HF.out⟩⟩
def bU(m:za)(f:Nat)(S:List zq)(pc:Nat):List Int:=if Qm m f S pc=[]then [-1]else Qm m f S pc
def YV(m:za)(f:Nat)(x:zl)(S:List zq)(pc:Nat):List (Int×Int×Int):=if(zx S (pc:Int)).seen=true then(bU m f S pc).map fun q=>((pc:Int),q,JU m x pc)else []
def Jm(m:za)(f:Nat)(x:zl)(S:List zq):Nat->List (Int×Int×Int)
 |0=> []
 |pc+1=>Jm m f x S pc++YV m f x S pc
def aI(m:za)(l:List (List zq))(f:Nat):List (Int×Int×Int):=Jm m f (zA m (f:Int)) (l[f]?.getD []) (zA m (f:Int)).code.length
theorem UD{m:za}{f:Nat}{x:zl}{S:List zq}{t:Int×Int×Int}:∀{n:Nat},t ∈Jm m f x S n->∃pc:Nat,pc<n/\t ∈YV m f x S pc
 |0,h=>nomatch h
 |n+1,h=>by
  rcases Xu.mp h with q|q
  ·obtain⟨pc,h1,h2⟩:=UD q
   grind
  grind
theorem q7b{m:za}{f:Nat}{x:zl}{S:List zq}{pc:Nat}{t:Int×Int×Int}(h:t ∈YV m f x S pc):(zx S (pc:Int)).seen=true/\t.1=(pc:Int)/\t.2.2=JU m x pc/\t.2.1 ∈bU m f S pc:=by
 unfold YV at h
 grind
theorem q7c(m:za)(f:Nat)(x:zl)(S:List zq)(pc:Nat)(h:(Qm m f S pc).length<=2):(YV m f x S pc).length<=2:=by
 unfold YV bU
 grind
theorem KX(m:za)(f:Nat)(x:zl)(S:List zq)(h:∀pc,(Qm m f S pc).length<=2):∀n,(Jm m f x S n).length<=2*n
 |0=>zn _
 |n+1=>by
  have h1:=KX m f x S h n;have h2:=q7c m f x S n (h n);show(Jm m f x S n++YV m f x S n).length<=_
  grind
theorem qgu(m:za)(f pc:Int)(st:List (Int×Int)):(zI m f pc st).next.length<=2:=by
 have h0:∀e,(qS e).next.length<=2:=fun e=>Xn _;have h1:∀pc op a:Int,(jt pc op a).length<=2:=fun pc op a=>by
  unfold jt
  grind
 unfold zI;split
 ·split
  ·unfold qT
   grind
  grind
 grind
theorem I5(m:za)(f:Nat)(S:List zq)(pc:Nat):(Qm m f S pc).length<=2:=qgu ..
theorem TG{m:za}{f pc:Nat}{x:zl}{op a b:Int}{st:List (Int×Int)}(hx:m.methods[f]? =some x)(hi:x.code[pc]? =some (op,a,b))(he:(zI m (f:Int) (pc:Int) st).err=0):(zI m (f:Int) (pc:Int) st).next=jt (pc:Int) op a:=by
 have e1:=pG (st:=st) hx hi;rw[e1]at he⊢
 unfold qT at he⊢
 split
 ·rename_i h;rw[Xb h]at he;exact absurd he (by decide)
 ·rename_i h;rw[Xa h]at he;split
  ·rename_i h2;rw[Xb h2]at he;exact absurd he (by decide)
  ·rename_i h2;rw[Xa h2]at he;split
   ·rfl
   ·rename_i h3;rw[Xa h3]at he;exact absurd he (by decide)
theorem I6{pc op a:Int}:jt pc op a=[]↔op=33:=by
 unfold jt
 grind
theorem qi0(m:za)(a b:Int):QP m 33 a b=0:=rfl
theorem qiv{m:za}{l:List (List zq)}{f:Nat}{x:zl}{S:List zq}(hm:zP m)(hx:m.methods[f]? =some x)(hS:l[f]? =some S)(hF:fD m (f:Int) S):L6 (aI m l f) x.code.length:=by
 have ah:zA m (f:Int)=x:=by unfold zA;grind
 have hxm:=Xr hx;have key:∀t ∈aI m l f,∃pc:Nat,pc<x.code.length/\t.1=(pc:Int)/\t.2.2=JU m x pc/\t.2.1 ∈bU m f S pc/\(zx S (pc:Int)).seen=true:=fun t ht=>by
  unfold aI at ht
  grind [UD,q7b]
 refine⟨fun t ht=> ?_,fun t ht=> ?_,fun t ht h0=> ?_⟩
 ·grind
 ·obtain⟨pc,h1,_,h2,_⟩:=key t ht;rw[h2];unfold JU;rw[Xc h1];exact R8 hm hxm (Xd h1)
 ·obtain⟨pc,h1,_,h2,h3,hs⟩:=key t ht;have hi:x.code[pc]? =some x.code[pc]:=(by grind)
  have he:=hF.2 pc (by rw[hF.1.len,ah];exact h1) hs;obtain⟨⟨op,a,b⟩,ho⟩:∃i,x.code[pc]=i:=⟨_,rfl⟩
  rw[ho]at hi;have hn:=TG (st:=(zx S (pc:Int)).stack) hx hi he.1;have nT:=hm.method hxm;have JB:op=33:=by
   unfold bU at h3;split at h3
   ·rename_i hnil;unfold Qm at hnil;rw[hn]at hnil;exact I6.mp hnil
   ·have hnx:=AY (m:=m) (st:=(zx S (pc:Int)).stack) (F:=0) (P:=pc) (nT.fits.ct _ (by grind)) (nT.co _ (Xr hi)) (by grind [pG]);rw[<-pG (st:=(zx S (pc:Int)).stack) hx hi]at hnx;have:=(hnx t.2.1 h3).1;omega
  subst JB;rw[h2];unfold JU
  grind [qi0]
def JM(n:Nat)(t:Int×Int×Int):List Int×Int:=vY n t.1 t.2.1 (-t.2.2)
theorem qgh{m:za}{f pc:Nat}{x:zl}{S:List zq}(h:(zx S (pc:Int)).seen=true->Qm m f S pc=[]->JU m x pc=0):q9 m f x S pc=(YV m f x S pc).map (JM x.code.length):=by
 unfold q9 YV bU;by_cases hs:(zx S (pc:Int)).seen=true
 ·rw[Xb hs,Xb hs];by_cases hn:Qm m f S pc=[]
  ·rw[Xb hn,Xb hn];simp[JM,h hs hn]
  ·rw[Xa hn,Xa hn,List.map_map];rfl
 grind
theorem RA{m:za}{f:Nat}{x:zl}{S:List zq}:∀(n:Nat),(∀pc,pc<n->(zx S (pc:Int)).seen=true->Qm m f S pc=[]->JU m x pc=0)->mD m f x S n=vY x.code.length (-1) 0 x.pot::(Jm m f x S n).map (JM x.code.length)
 |0,_=>rfl
 |n+1,h=>by
  show mD m f x S n++q9 m f x S n=_;rw[RA n (by grind),qgh (h n (by omega))];show _=_::(Jm m f x S n++YV m f x S n).map _
  grind
theorem qhc:(Tryz.prog.info? 166).map (fun i=>(i.zero,i.size,i.bytes))=some (some (.agg #[.int .i64 0,.int .i64 0,.int .i64 0]),3,24):=by kernel_rfl
theorem qdm{m:za}{h:zh}{f pc:Int}{st L:List (Int×Int)}{NL:List Int}{er:Int}{A:Option Addr}{cap n:Nat}{w0 w:World}(HI:Hid (zr w0 w0.heap.size h m))(HX:Hid (Below w0.heap.size w0 w))(HM:Hid (zP m))(HN:Hid (st.length=n))(HS:Hid (zd zf 2 w w.heap.size A cap st))(hs:n<=4000)(HR:Hid (zI m f pc st=⟨L,NL,er⟩)):
  Calls Tryz.prog 105 #[zv h m,.int .i64 f,.int .i64 pc,.slice A n cap] w fun e w'=>∃A c A' c',e= .returned (.tuple #[.slice A L.length c,.slice A' NL.length c',.int .i64 er])/\zd zu 1 w' w'.heap.size A' c' NL/\(∀ad,A'=some ad->w.heap.size<=ad.block)/\Below w.heap.size w w':=by
 obtain rfl:=HN.out;have H:=Ug m f pc st A cap h w (HI.out.now HX.out) HM.out HS.out hs;rw[HR.out]at H;exact H.mono fun e w' ⟨A,c,A',c',h1,h2,h3,h4,h5,h6⟩=>(by grind)
theorem qd0{w:World}{B c:Nat}{A:Option Addr}{L:List Int}(h:zd zu 1 w B A c L):zw w B A (L.map (Value.int .i64)):=fun j u hu=>by
 rw[XF]at hu;cases hL:L[j]? with
 |none=>grind
 |some x=>
  rw[hL]at hu;cases hu;obtain⟨ad,e,hb,hc⟩:=h.row j x hL;exact⟨ad,e,hb,by have hc:w.cell? (ad.add (j*1))=_:=hc;grind⟩
theorem zw.mono'{w:World}{B C:Nat}{A:Option Addr}{xs:List Value}(h:zw w B A xs)(hB:B<=C):zw w C A xs:=fun j u hu=>by
 obtain⟨ad,e,hb,hc⟩:=h j u hu
 grind
theorem qen(w:World)(x y z:Int):∀(j:Nat) (u:Value),[Value.int .i64 x,.int .i64 y,.int .i64 z][j]? =some u->(w.alloc (.cells #[.int .i64 x,.int .i64 y,.int .i64 z] 166)).cell? ((⟨w.heap.size,0,none⟩:Addr).add j)=some u:=fun j u hj=>by
 have hc:=qr w [.int .i64 x,.int .i64 y,.int .i64 z] 166;have e:(⟨w.heap.size,0,none⟩:Addr).add j=⟨w.heap.size,j,none⟩:=by unfold Addr.add;grind
 simp_all
theorem qeh(l:List (Int×Int×Int))(t:Int×Int×Int):dm (l++[t])=dm l++codC t:=by unfold dm;simp
structure iy(w1 wr:World)(v:Value)(L:List (Int×Int×Int))(B:Nat)(A:Option Addr)(NQ:List Int)(Ni:Nat)(op a b:Int):Prop where
 row:wr.ownsRow w1.heap.size 166 3 v L.length (dm L)
 apart:fA v A
 next:zw wr B A (NQ.map (Value.int .i64))
 room:B<=wr.heap.size
 ins:zm wr Ni [.int .i64 op,.int .i64 a,.int .i64 b] 50
 low:Below w1.heap.size w1 wr
theorem iy.keep{w1 wr w':World}{v:Value}{L:List (Int×Int×Int)}{B Ni:Nat}{A:Option Addr}{NQ:List Int}{op a b:Int}(h:iy w1 wr v L B A NQ Ni op a b)(hb:Below wr.heap.size wr w'):iy w1 w' v L B A NQ Ni op a b:=
 ⟨Yr h.row hb (vA h.row),h.apart,(h.next.below_to hb h.room),Xe h.room hb.size,h.ins.keep hb (zm.lt h.ins),h.low.trans (hb.mono h.low.size)⟩
theorem iy.app{w1 wr w9:World}{v:Value}{L:List (Int×Int×Int)}{B Ni g9 c9 n:Nat}{A:Option Addr}{NQ:List Int}{op a b:Int}{t:Int×Int×Int}{o:Obj}(h:iy w1 wr v L B A NQ Ni op a b)(hn:L.length=n)(hA:∀ad,A=some ad->ad.block<B)(hown:w9.ownsRow w1.heap.size 166 3 (.slice (some ⟨g9,0,none⟩) (n+1) c9) (n+1) (dm L++codC t))(hgrow:(wr.alloc o).grownBy w9 v.ownBlock)(hor:v.ownBlock=some g9\/g9=(wr.alloc o).heap.size):
  iy w1 w9 (.slice (some ⟨g9,0,none⟩) (n+1) c9) (L++[t]) B A NQ Ni op a b:=by
 subst hn;have h1:Below wr.heap.size wr (wr.alloc o):=zk;refine⟨by grind [qeh,Xh],DN h.apart hA hor (by have:=h.room;simp;omega),I8 h.next h.room hgrow h.apart,Xe (Xe h.room h1.size) hgrow.size,?_,?_⟩
 ·exact Ul (h.ins.keep h1 (zm.lt h.ins)) hgrow (q0m h.row h.ins (by decide))
 ·exact jx (h.low.trans (h1.mono h.low.size)) (Yr h.row h1 (vA h.row)) (Xe h.low.size h1.size) hgrow
set_option maxHeartbeats 12800000 in
theorem qc3(m:za)(l:List (List zq))(f:Nat)(x:zl)(A:Option Addr)(c:Nat)(h:zh)(w:World)(H:zr w w.heap.size h m)(hm:zP m)(hT:jO m w A c l)(hx:m.methods[f]? =some x):
  Calls Tryz.prog 108 #[zv h m,.slice A l.length c,.int .i64 f] w fun e w'=>∃v,e= .returned v/\w'.ownsRow w.heap.size 166 3 v (aI m l f).length (dm (aI m l f))/\Below w.heap.size w w':=by
 obtain⟨hM,FI,sV,Cz⟩:=hT;obtain⟨i0,hi,hz0,hz1,hz2⟩:=jJ qhc;have hfm:f<m.methods.length:=(by grind)
 have hfl:f<l.length:=by omega
 have hxe:m.methods[f]=x:=(by grind)
 have HW:=zH (vU (w:=w) (h:=h) (m:=m));have HBX:=zH (qd w h m);have HZ:Hid (w.heap.size<(w.alloc (ze h m)).heap.size):=zH (by simp);have HI:=zH (H.now HW.out);have HM:=zH hm;have hle:=H.methods.le;have hcap:=H.methods.cap;have hl1:=hM.le;have hl2:=hM.cap;have Zd:=zH (jP Vp.keeps hM HW.out);have hxm:x ∈m.methods:=(by grind)
 have ah:zA m (f:Int)=x:=by unfold zA;grind
 obtain⟨Zt,rfl,oI,A1,c1,r0,jd⟩:=Zd.out.row.at_ hfl;obtain⟨ad,qE,eA,hab,hin,hcm⟩:=Zx HI.out hfm;rw[hxe]at hin hcm;have uo:=Cz f l[f] (Xc hfl);have hW0:aI m l f=Jm m f x l[f] x.code.length:=by unfold aI;grind
 rw[hW0];have iM:l[f].length=x.code.length:=by rw[uo.grow.len,ah]
 obtain⟨S,hS⟩:=zj (l[f]);rw[hS]at jd uo iM r0⊢
 replace r0:(w.alloc (ze h m)).cell? (Zt.add f)=some (.slice A1 S.length c1):=by grind
 obtain⟨n,hn⟩:=zj (x.code.length);have qln:n<=64:=by rw[<-hn];exact(hm.method hxm).fits.cl
 have QT:=zH hxm;have oh:=zH hx;have sj:=zH uo;have iW:=zH jd;have YJ:=zH hn;have jD:Hid (S.length=n):=(by grind)
 rw[hn];rw[jD.out]at r0;obtain⟨A0,Ab,A2,A3,A4,k0,k1,k2,k3,k4⟩:=h;dsimp only at eA hle hcap;subst eA;obtain⟨b0,b1,b2,b3,b4,b5,b6,b7⟩:=hcm;have Cj:=zH hin.code;have q18:=hin.code.le;have ql0:=hin.code.cap;obtain⟨xA0,xA1,Yb,JA,Zm,Zo,vP,vF⟩:=qE;dsimp only at b4 Cj q18 ql0;rw[hn]at b4 q18;have jw:=zH b4;have qY:Hid (ad.block<(w.alloc (ze ⟨A0,Ab,A2,some ad,A4,k0,k1,k2,k3,k4⟩ m)).heap.size):=zH hab;have hfi:¬(l.length:Int)<=(f:Int):=by omega
 have hfj:(f:Int)<(l.length:Int):=by omega
 have hfk:(f:Int)<(m.methods.length:Int):=by omega
 have hS1:=jd.le;have hS2:=jd.cap;rw[jD.out]at hS1;clear H hm hM FI Cz hx hxe hxm ah hin b0 b1 b2 b3 b4 b5 b6 b7 uo jd iM hS hn hab sV hW0;go_enter Tryz.func108,Tryz.ntmps108;go_upto_region 1 with fail
 generalize w.alloc (ze ⟨A0,Ab,A2,some ad,A4,k0,k1,k2,k3,k4⟩ m)=w1 at*
 have HX0:=qP w1;go_wp2_with fail
 go_loopw [7,25] (fun v i wr=>∃pc:Nat,pc<=n/\i= .int .i64 pc/\Hid (wr.ownsRow w1.heap.size 166 3 v (Jm m f x S pc).length (dm (Jm m f x S pc)))/\Hid (Below w1.heap.size w1 wr)) (fun _ i _=>n - (intOf i).toNat)
 case atStart=>exact⟨0,Xn _,rfl,zH (XM _ _ _ _),HX0⟩
 case round=>
  clear HX0 r0;obtain⟨pc,hpc,rfl,HO,HX⟩:=hrel;by_cases hpn:pc<n;rotate_left
  ·obtain rfl:pc=n:=by omega
   go_wp2_with fail
   go_ret;exact⟨_,rfl,js HO.out HW.out.size,zD HW HX⟩
  have hpi:(pc:Int)<(n:Int):=by omega
  obtain⟨Yh,eS,xm,u0,Ast,cst,u1,hu⟩:=iW.out.row.at_ (show pc<S.length by rw[jD.out];exact hpn);subst eS;have Cn:zx S (pc:Int)=S[pc]'(by grind):=(by grind [bS])
  have q1x:(S[pc]'(by grind)).stack.length<=8:=sj.out.grow.small _ (Xd _);generalize S[pc]'(by grind)=s at*
  have vR:=zH Cn;have HU:=zH hu;have xN:Hid (Jm m f x S (pc+1)=Jm m f x S pc++YV m f x S pc):=zH rfl;have hwl:(Jm m f x S pc).length<=2*pc:=(by grind [KX,I5])
  obtain⟨WL,tH⟩:=zj (Jm m f x S pc);rw[tH]at HO xN hwl;have u0:=(HX.out.cell (p:=Yh.add (pc*2)) (by grind [zC])).trans u0;have u1:=(HX.out.cell (p:=zc (Yh.add (pc*2)) 1) (by grind [zC])).trans u1;have lQ:=zH (qr wr [.bool s.seen,.slice Ast s.stack.length cst] 81);have hA3:Below wr.heap.size wr (wr.alloc (.cells #[.bool s.seen,.slice Ast s.stack.length cst] 81)):=zk;have zp:Hid (Below w1.heap.size w1 (wr.alloc (.cells #[.bool s.seen,.slice Ast s.stack.length cst] 81))):=zi HX hA3;have qa:Hid ((wr.alloc (.cells #[.bool s.seen,.slice Ast s.stack.length cst] 81)).ownsRow w1.heap.size 166 3 u7 WL.length (dm WL)):=kpO HO hA3;clear hu Cn tH hA3 HO;go_upto_region 7 with fail
  generalize wr.alloc (.cells #[.bool s.seen,.slice Ast s.stack.length cst] 81)=w3 at*
  have d0:=lQ.out 0 _ rfl;have d1:=lQ.out 1 _ rfl;clear u0 u1;by_cases hse:s.seen=true;rotate_left
  ·have tZ:s.seen=false:=by simpa using hse
   have HY:Hid (Jm m f x S (pc+1)=WL):=zH (by rw[xN.out];unfold YV;rw[vR.out,Xa hse,List.append_nil]);rw[tZ]at d0;go_wp2_with fail
   go_roundw;case rel=>exact⟨pc+1,by omega,by go_num,by rw[HY.out];exact qa,zp⟩
   case measure=>simp[intOf];omega
  have Ie:=sj.out.done pc (by rw[jD.out];exact hpn) (by rw[vR.out];exact hse);rw[vR.out]at Ie;have QB:=zH hse;rw[hse]at d0;obtain⟨q0,q1,q2,q3,q4,q5,q6⟩:=HBX.out.keep zp.out HZ.out;obtain⟨⟨L,NL,er⟩,hrs⟩:∃r,zI m (f:Int) (pc:Int) s.stack=r:=⟨_,rfl⟩
  have hne:er=0:=by have:=Ie.1;rw[hrs]at this;exact this
  subst hne;have kK:=zH hrs;have qO:Hid (Qm m f S pc=NL):=zH (by unfold Qm;rw[vR.out,hrs]);have CB:Hid (zd zf 2 w3 w3.heap.size Ast cst s.stack):=zH (jP zf.keeps HU.out zp.out);have Nb:s.stack.length<=4000:=by omega
  clear hrs hse Ie;go_upto_region 9 with(go_at_call 105;(with_reducible refine(qdm HI zp HM (zH rfl) CB Nb kK).mono ?_);rintro e w6 ⟨A7,c7,A8,c8,rfl,QW,h8,hb⟩;have H8:=zH QW;have HA8:=zH h8;have HX6:=zi zp hb;have HO6:=kpO qa hb;have Vt:=zH (vA qa.out);have qm5:=zH hb.size;clear QW hb h8)
  clear q0 q1 q2 q3 q4 q5 q6 d0 d1;obtain⟨q0,q1,q2,q3,q4,q5,q6⟩:=HBX.out.keep HX6.out HZ.out;have b4:=(HX6.out.cell (p:=zc (ad.add (f*8)) 4) (by show(ad.add _).block<_;rw[zC];exact qY.out)).trans jw.out;obtain⟨ac,rfl,hac,NP,Mj,Nh⟩:=Cj.out.row.at_ (show pc<x.code.length by rw[YJ.out];exact hpn);have hip:x.code[pc]? =some (x.code[pc]'(by rw[YJ.out];exact hpn)):=Xc _;generalize x.code[pc]'(by rw[YJ.out];exact hpn)=ins at*
  obtain⟨op,a,b⟩:=ins;dsimp only at NP Mj Nh;have Od:=zH hip;have j0:=(HX6.out.cell (p:=ac.add (pc*3)) (by exact zZ hac)).trans NP;have j1:=(HX6.out.cell (p:=zc (ac.add (pc*3)) 1) (by show(ac.add _).block<_;rw[zC];exact hac)).trans Mj;have j2:=(HX6.out.cell (p:=zc (ac.add (pc*3)) 2) (by show(ac.add _).block<_;rw[zC];exact hac)).trans Nh;clear hip NP Mj Nh;go_upto_region 11 with fail
  have gG:Below w6.heap.size w6 (w6.alloc (.cells #[.int .i64 op,.int .i64 a,.int .i64 b] 50)):=zk;have BL:Hid (zm (w6.alloc (.cells #[.int .i64 op,.int .i64 a,.int .i64 b] 50)) w6.heap.size [.int .i64 op,.int .i64 a,.int .i64 b] 50):=zH (zm.new w6 _ _);have Zf:=zi HX6 gG;have aR:=kpO HO6 gG;have nU:=zH ((qd0 H8.out).below_to gG (zn _));have hq1:=H8.out.le;have hq2:=H8.out.cap;have HZ7:=zH gG.size;have qlr:=qm5.out;clear q0 q1 q2 q3 q4 q5 q6 b4 j0 j1 j2;obtain⟨Ni,hNi⟩:∃z,w6.heap.size=z:=⟨_,rfl⟩
  simp only[hNi]at BL⊢
  generalize w6.alloc (.cells #[.int .i64 op,.int .i64 a,.int .i64 b] 50)=w7 at*
  have HNG:Hid (NL=jt (pc:Int) op a):=zH (by
   have:=TG (st:=s.stack) oh.out Od.out (by rw[kK.out]);rw[kK.out]at this;exact this)
  obtain⟨NQ,FY⟩:=zj (bU m f S pc);have sU:Hid ((op=33->NQ=[-1])/\(¬op=33->NQ=NL)):=zH ⟨fun e=>by
   rw[<-FY];unfold bU;rw[qO.out,HNG.out,Xb (I6.mpr e)],fun e=>by
   rw[<-FY];unfold bU;rw[qO.out,HNG.out,Xa (fun h=>e (I6.mp h))]⟩
  have JF:=zH FY;clear FY gG;have e0:=BL.out.cells 0 _ rfl;go_upto_if 56 with fail
  go_cut [11] (fun s wx=>∃A9 c9,s= .slice A9 NQ.length c9/\Hid (zw wx wx.heap.size A9 (NQ.map (Value.int .i64)))/\Hid (NQ.length<=c9/\c9<=9223372036854775807)/\Hid (∀ad,A9=some ad->w3.heap.size<=ad.block)/\Hid (Below w7.heap.size w7 wx))
  case first=>
   by_cases JB:op=33
   ·subst JB;have e:=sU.out.1 rfl;subst e;go_wp2_with fail
    go_meet
    exact⟨some ⟨w7.heap.size,0,none⟩,1,rfl,zH (gZ w7 _ _),zH ⟨zn _,by omega⟩,zH (fun ad e=>by injection e with e;subst e;exact Xe qlr HZ7.out),zH (zk)⟩
   ·have e:=sU.out.2 JB;subst e;go_wp2_with fail
    go_meet
    exact⟨A8,c8,rfl,zH (nU.out.mono' HZ7.out),zH ⟨hq1,hq2⟩,HA8,zH (zb _ _)⟩
  case rest=>
   obtain⟨A9,c9,rfl,H9,Ce,HA9,QU⟩:=hcut;have hq91:=Ce.out.1;have hq92:=Ce.out.2;have hNQl:NQ.length<=2:=by
    rw[<-JF.out];have:=I5 m f S pc;unfold bU;split
    ·exact(show 1<=2 by omega)
    ·exact this
   obtain⟨C,hC⟩:=zj (QP m op a b);have HCV:=zH hC;have OA:Hid (JU m x pc=C):=zH (by unfold JU;rw[Od.out];exact hC);have VS:Hid ((op,a,b) ∈x.code):=zH (Xr Od.out);have HWR:Hid (iy w1 wc u7 WL wc.heap.size A9 NQ Ni op a b):=zH ⟨Yr aR.out QU.out (vA aR.out),fun g hg ad e=>by have h1:=Vt.out g hg;have h2:=HA9.out ad e;omega,H9.out,zn _,BL.out.keep QU.out (zm.lt BL.out),zD Zf QU⟩;have HAL:Hid (∀ad,A9=some ad->0<NQ.length->ad.block<wc.heap.size):=zH (fun ad e hp=>by
    obtain⟨ad',e',hb,_⟩:=H9.out 0 (.int .i64 NQ[0]) (by rw[XF,Xc hp];rfl);rw[e]at e';cases e';exact hb)
   clear hC aR BL Zf nU HO6 qa H8 HA8 H9 Ce QU e0;go_wp2_with fail
   go_loopw [7,60] (fun v i wr=>∃k:Nat,k<=NQ.length/\i= .int .i64 k/\Hid (iy w1 wr v (WL++(NQ.take k).map (fun q=>((pc:Int),q,C))) wc.heap.size A9 NQ Ni op a b)) (fun _ i _=>NQ.length - (intOf i).toNat)
   case atStart=>exact⟨0,Xn _,rfl,by rw[List.take_zero,List.map_nil,List.append_nil];exact HWR⟩
   case round=>
    clear HWR;obtain⟨k,hk,rfl,HR⟩:=hrel;by_cases hkn:k<NQ.length
    ·have hki:(k:Int)<(NQ.length:Int):=by omega
     obtain⟨ad9,qky,qmd,hc9⟩:=HR.out.next k (.int .i64 NQ[k]) (by rw[XF,Xc hkn];rfl);subst qky;have qkp:Hid (∀ad',some ad9=some ad'->ad'.block<wc.heap.size):=zH (fun ad' e=>by cases e;exact qmd);have HTK:Hid (WL++(NQ.take (k+1)).map (fun q=>((pc:Int),q,C))=(WL++(NQ.take k).map (fun q=>((pc:Int),q,C)))++[((pc:Int),NQ[k],C)]):=zH (by rw[Xx,Xc hkn,Wc,XT];rfl);have sV:(WL++(NQ.take k).map (fun q=>((pc:Int),q,C))).length<=1000:=by rw[Xh,Xm,XW];omega
     generalize WL++(NQ.take k).map (fun q=>((pc:Int),q,C))=LL at*
     generalize NQ[k]=to_ at*
     obtain⟨q0,q1,q2,q3,q4,q5,q6⟩:=HBX.out.keep (HR.out.low) HZ.out;have j0:=HR.out.ins.cells 0 _ rfl;have j1:=HR.out.ins.cells 1 _ rfl;have j2:=HR.out.ins.cells 2 _ rfl;have xQ:=zH HR.out.low;go_wp2_with(first
      |(go_at_call 151;(with_reducible refine(qgg HI xQ HM QT VS HCV).mono ?_);rintro e w5 ⟨rfl,hb⟩;have yD:=zH (HR.out.keep hb);clear hb)
      |(at_builtin;refine wpList_append_lies _ rfl _ _ 163 rfl w1.heap.size 166 i0 (.agg #[.int .i64 0,.int .i64 0,.int .i64 0]) 3 24 Tryz.underlying163 hi hz0 hz1 hz2 rfl (by decide) _ LL.length (dm LL) rfl (yD.out.row.alloc _) ⟨_,0,none⟩ 1 1 [.int .i64 pc,.int .i64 to_,.int .i64 C] rfl rfl (qen _ _ _ _) (by simp[Value.oneCell']) (by decide) (by unfold maxLen;omega) (by omega) (by have:=yD.out.low.size;simp;omega) _ rfl ?_;intro g9 c9' w9 hown hgrow hor hlt9;have HR9:Hid (iy w1 w9 (.slice (some ⟨g9,0,none⟩) (LL.length+1) c9') (LL++[((pc:Int),to_,C)]) wc.heap.size (some ad9) NQ Ni op a b):=zH (yD.out.app rfl qkp.out hown hgrow hor);clear hown hgrow hor hlt9))
     go_roundw;case rel=>exact⟨k+1,by omega,by go_num,by rw[HTK.out];exact HR9⟩
     case measure=>simp[intOf];omega
    ·obtain rfl:k=NQ.length:=by omega
     have qmj:Hid (Jm m f x S (pc+1)=WL++(NQ.take NQ.length).map (fun q=>((pc:Int),q,C))):=zH (by
      rw[xN.out,XL];unfold YV;rw[vR.out,Xb QB.out,JF.out,OA.out])
     go_wp2_with fail
     go_roundw;case rel=>exact⟨pc+1,by omega,by go_num,by rw[qmj.out];exact zH HR.out.row,zH HR.out.low⟩
     case measure=>simp[intOf];omega
theorem qiw{m:za}{l:List (List zq)}{f:Nat}{x:zl}{A:Option Addr}{c:Nat}{h:zh}{w0 w:World}{W:List (Int×Int×Int)}(HI:Hid (zr w0 w0.heap.size h m))(HX:Hid (Below w0.heap.size w0 w))(HM:Hid (zP m))(HT:Hid (jO m w A c l))(oh:Hid (m.methods[f]? =some x))(HW:Hid (aI m l f=W)):
  Calls Tryz.prog 108 #[zv h m,.slice A l.length c,.int .i64 f] w fun e w'=>∃v,e= .returned v/\w'.ownsRow w.heap.size 166 3 v W.length (dm W)/\Below w.heap.size w w':=by
 have H:=qc3 m l f x A c h w (HI.out.now HX.out) HM.out HT.out oh.out;rw[HW.out]at H;exact H
theorem Eu{m:za}{w w':World}{A:Option Addr}{c:Nat}{l:List (List zq)}(h:jO m w A c l)(hb:Below w.heap.size w w'):jO m w' A c l:=⟨jP Vp.keeps h.1 hb,h.2⟩
theorem q7i{w:World}{B e size n:Nat}{v:Value}{xs:List Value}(h:w.ownsRow B e size v n xs):∃A c,v= .slice A n c:=by
 grind [Je]
theorem q6o{w:World}{B B' e e' k k' n n':Nat}{v v':Value}{xs ys:List Value}(h:w.ownsRow B e k v n xs)(h':w.ownsRow B' e' k' v' n' ys)(hne:e≠e'){g:Nat}(hg:v.ownBlock=some g):v'.ownBlock≠some g:=fun hg'=>by
 rcases h.2 with⟨rfl,_⟩|⟨g1,cap,cur,rfl,_,hh,_⟩
 ·cases hg
 ·have e1:g1=g:=by simpa[Value.ownBlock]using hg
  rcases h'.2 with⟨rfl,_⟩|⟨g2,cap',cur',rfl,_,hh',_⟩
  ·cases hg'
  ·have e2:g2=g:=by simpa[Value.ownBlock]using hg'
   grind
theorem qgj{w w9:World}{B B' e e' k k' n n':Nat}{v v':Value}{xs ys:List Value}{o:Obj}(h:w.ownsRow B e k v n xs)(h':w.ownsRow B' e' k' v' n' ys)(hne:e≠e')(hg:(w.alloc o).grownBy w9 v'.ownBlock):w9.ownsRow B e k v n xs:=by
 have ha:=Yr h ((zb w.heap.size w).alloc (zn _) o) (vA h);refine⟨ha.1,?_⟩;rcases ha.2 with h0|⟨g,cap,cur,hv,hb,hh,rest⟩
 ·grind
 ·refine .inr ⟨g,cap,cur,hv,hb,?_,rest⟩;rw[hg.block g (lt_of_block hh) (fun e=>q6o h h' hne (g:=g) (by rw[hv];rfl) e.symm)];exact hh
theorem kU.slc{w:World}{B n g' c:Nat}{gs:List Nat}{L:List Inq}(h:kU w B (.slice (some ⟨g',0,none⟩) L.length c) n gs L)(hn:n<=1000):zd Be 2 w w.heap.size (some ⟨g',0,none⟩) c L:=by
 rcases Je h.row with⟨e,_⟩|⟨g,c',e,h1,h2⟩
 ·cases e
 ·injection e with e1 _ e3;cases e1;cases e3;refine⟨h1,h2,fun i q hi=> ?_⟩;obtain⟨gq,c0,c1,hN,hq,hg',_⟩:=h.at_ hi;refine⟨_,rfl,hg',⟨_,_,?_,hN.slc rfl (by omega)⟩,?_⟩;all_goals grind [addg]
set_option maxHeartbeats 12800000 in
theorem q75(m:za)(l:List (List zq))(f:Int)(A:Option Addr)(c:Nat)(h:zh)(w:World)(H:zr w w.heap.size h m)(hm:zP m)(hT:jO m w A c l):
  Calls Tryz.prog 57 #[zv h m,.slice A l.length c,.int .i64 f] w fun e w'=>∃A' c',e= .returned (.slice A' (bT m l f).length c')/\zd Be 2 w' w'.heap.size A' c' (bT m l f)/\Below w.heap.size w w':=by
 have HW:=zH (vU (w:=w) (h:=h) (m:=m));have HBX:=zH (qd w h m);have HZ:Hid (w.heap.size<(w.alloc (ze h m)).heap.size):=zH (by simp);have hle:=H.methods.le;have hcap:=H.methods.cap;by_cases hf:0<=f/\f<m.methods.length;rotate_left
 ·have e:bT m l f=[]:=by unfold bT;grind
  rw[e];clear H hT hm e;by_cases h0:f<0
  ·go_enter Tryz.func57,Tryz.ntmps57;go_upto_region 1 with fail
   generalize w.alloc (ze h m)=w1 at*
   obtain⟨q0,q1,q2,q3,q4,q5,q6⟩:=HBX.out;go_wp2_with fail
   go_ret;exact⟨none,0,rfl,va,HW.out⟩
  ·have h1:¬f<m.methods.length:=(by omega)
   have h2:(m.methods.length:Int)<=f:=by omega
   clear hf;go_enter Tryz.func57,Tryz.ntmps57;go_upto_region 1 with fail
   generalize w.alloc (ze h m)=w1 at*
   obtain⟨q0,q1,q2,q3,q4,q5,q6⟩:=HBX.out;go_wp2_with fail
   go_ret;exact⟨none,0,rfl,va,HW.out⟩
 obtain⟨f0,f1⟩:=hf;obtain⟨k,rfl⟩:=Xj f0;have hk:k<m.methods.length:=by omega
 have hkl:k<l.length:=by rw[hT.2.2.1];exact hk
 obtain⟨x,hxe⟩:=zj (m.methods[k]);have hgx:m.methods[k]? =some x:=by grind
 have hxm:x ∈m.methods:=(by grind)
 have ah:zA m (k:Int)=x:=by unfold zA;grind
 obtain⟨n,hn⟩:=zj (x.code.length);have qln:n<=64:=by rw[<-hn];exact(hm.method hxm).fits.cl
 have uo:=hT.2.2.2 k l[k] (by grind);have hok:=qiv hm hgx (Xc hkl) uo;obtain⟨WL,tH⟩:∃W,aI m l k=W:=⟨_,rfl⟩
 have hw2:WL.length<=128:=by
  rw[<-tH];unfold aI
  grind [KX,I5]
 have q1o:bT m l (k:Int)=vY n (-1) 0 x.pot::WL.map (JM n):=by
  unfold bT;rw[Xb ⟨f0,f1⟩,Xo,ah,RA,hn,<-tH]
  ·unfold aI;rw[ah,hn]
  ·intro pc hpc hs hnil;have:=hok.none ((pc:Int),-1,JU m x pc) (by
    unfold aI;rw[ah];have key:∀N,pc<N->((pc:Int),(-1:Int),JU m x pc) ∈Jm m k x (l[k]?.getD []) N:=by
     intro N
     induction N with
     |zero=>omega
     |succ N ih=>
      intro h;rcases Xl pc N with q|q
      ·exact List.mem_append_left _ (ih q)
      ·refine List.mem_append_right _ ?_;unfold YV bU
       grind
    grind) (by grind)
   exact this
 have vQ:Hid (L6 WL n):=(by simp_all)
 rw[q1o];have HI:=zH (H.now HW.out);have HM:=zH hm;have CG:=zH (Eu hT HW.out);have oh:=zH hgx;have M0:=zH tH;obtain⟨ad,qE,eA,hab,hin,hcm⟩:=Zx HI.out hk;rw[hxe]at hin hcm;obtain⟨A0,Ab,A2,A3,A4,k0,k1,k2,k3,k4⟩:=h;dsimp only at eA hle hcap;subst eA;obtain⟨b0,b1,b2,b3,b4,b5,b6,b7⟩:=hcm;obtain⟨xA0,xA1,Yb,JA,Zm,Zo,vP,vF⟩:=qE;dsimp only at b0 b1 b4 b7;rw[hn]at b4;obtain⟨i0,hi,hz0,hz1,hz2⟩:=jJ q88;have hf0:¬(k:Int)<0:=by omega
 have hf2:¬(m.methods.length:Int)<=(k:Int):=by omega
 have uu:Hid (n<=1000):=zH (by omega);obtain⟨R0,hR0⟩:∃R,vY n (-1) 0 x.pot=R:=⟨_,rfl⟩
 have q28:R0.2=x.pot:=by rw[<-hR0];rfl
 have q32:R0.1.length=n:=by grind [Ez]
 have ky:Hid (vY n (-1) 0 x.pot=(R0.1,x.pot)):=(by grind)
 rw[hR0];have dG:=zH (⟨q28,q32⟩:R0.2=x.pot/\R0.1.length=n);clear hR0 q28 q32;clear H hm hT hgx hxm ah uo hok tH q1o hin hn hab hxe hkl;go_enter Tryz.func57,Tryz.ntmps57;go_upto_region 1 with fail
 generalize w.alloc (ze ⟨A0,Ab,A2,some ad,A4,k0,k1,k2,k3,k4⟩ m)=w1 at*
 obtain⟨q0,q1,q2,q3,q4,q5,q6⟩:=HBX.out;go_upto_region 5 with fail
 have zp:Hid (Below w1.heap.size w1 (w1.alloc (.cells #[.slice xA0 x.args.length Zm,.slice xA1 x.locals.length Zo,.int .i64 x.ret.1,.int .i64 x.ret.2,.slice Yb n vP,.int .i64 x.depth,.int .i64 x.pot,.slice JA x.phi.length vF] 48))):=zH (zk);have HXB:Hid (zm (w1.alloc (.cells #[.slice xA0 x.args.length Zm,.slice xA1 x.locals.length Zo,.int .i64 x.ret.1,.int .i64 x.ret.2,.slice Yb n vP,.int .i64 x.depth,.int .i64 x.pot,.slice JA x.phi.length vF] 48)) w1.heap.size [.slice xA0 x.args.length Zm,.slice xA1 x.locals.length Zo,.int .i64 x.ret.1,.int .i64 x.ret.2,.slice Yb n vP,.int .i64 x.depth,.int .i64 x.pot,.slice JA x.phi.length vF] 48):=zH (zm.new w1 _ _);clear q0 q1 q2 q3 q4 q5 q6 b0 b1 b2 b3 b4 b5 b6 b7;generalize w1.alloc (.cells #[.slice xA0 x.args.length Zm,.slice xA1 x.locals.length Zo,.int .i64 x.ret.1,.int .i64 x.ret.2,.slice Yb n vP,.int .i64 x.depth,.int .i64 x.pot,.slice JA x.phi.length vF] 48)=w3 at*
 have b6:=HXB.out.cells 6 _ rfl;go_upto_region 6 with(go_at_call 107;(with_reducible refine(Tz uu ky).mono ?_);rintro e w4 ⟨g0,rfl,hg0,hN0,hb⟩;have qX:=zH hg0;have HN0:=zH hN0;have HX4:=zi zp hb;clear hg0 hN0 hb)
 clear b6;have hB5:Below w4.heap.size w4 (w4.alloc (.cells #[.slice (some ⟨g0,0,none⟩) n n,.int .i64 x.pot] 113)):=zk;have qc:=zi HX4 hB5;have YG:Hid (kU (w4.alloc (.cells #[.slice (some ⟨g0,0,none⟩) n n,.int .i64 x.pot] 113)) w1.heap.size (.slice (some ⟨w4.heap.size,0,none⟩) 1 1) n [g0] [R0]):=zH (by
  have:=kU.one (w:=w4) (B:=w1.heap.size) (n:=n) (g:=g0) (q:=R0) ⟨Xe zp.out.size qX.out,HN0.out⟩ dG.out.2 HX4.out.size;rw[dG.out.1]at this;exact this)
 obtain⟨g5,hg5⟩:∃z,w4.heap.size=z:=⟨_,rfl⟩
 simp only[hg5]at YG⊢
 generalize w4.alloc (.cells #[.slice (some ⟨g0,0,none⟩) n n,.int .i64 x.pot] 113)=w5 at*
 have tq:=zH (Eu CG.out qc.out);obtain⟨q0,q1,q2,q3,q4,q5,q6⟩:=HBX.out.keep qc.out HZ.out;clear hB5;go_wp2_with(go_at_call 108;(with_reducible refine(qiw HI qc HM tq oh M0).mono ?_);rintro e w6 ⟨v6,rfl,ho,hb⟩;obtain⟨AW,cW,rfl⟩:=q7i ho;have HO6:=zH (js ho qc.out.size);have HX6:=zi qc hb;have Yk:=zH (YG.out.keep hb);clear ho hb)
 clear q0 q1 q2 q3 q4 q5 q6;go_loopw [9,39] (fun v i wr=>∃(j g9 c9:Nat) (gs:List Nat),j<=WL.length/\i= .int .i64 j/\v= .slice (some ⟨g9,0,none⟩) (j+1) c9/\Hid (kU wr w1.heap.size (.slice (some ⟨g9,0,none⟩) (j+1) c9) n gs (R0::(WL.take j).map (JM n)))/\Hid (wr.ownsRow w1.heap.size 166 3 (.slice AW WL.length cW) WL.length (dm WL))/\Hid (Below w1.heap.size w1 wr)) (fun _ i _=>WL.length - (intOf i).toNat)
 case atStart=>exact⟨0,g5,1,[g0],Xn _,rfl,rfl,by rw[List.take_zero];exact Yk,HO6,HX6⟩
 case round=>
  clear YG Yk HO6 HX6;obtain⟨j,g9,c9,gs,hj,rfl,rfl,HQ,HO,HX⟩:=hrel;by_cases hjw:j<WL.length
  ·have hji:(j:Int)<(WL.length:Int):=by omega
   obtain⟨gw,rfl⟩:∃gw,AW=some ⟨gw,0,none⟩:=by
    rcases Je HO.out with⟨e,h0⟩|⟨g,c',e,_⟩
    ·omega
    ·injection e with e1 _ _;exact⟨g,e1⟩
   obtain⟨_,hcw⟩:=lZ HO.out;have hget:=Xc hjw;have u0:=(hcw _ _ (YP (f:=codC) (k:=3) (fun _=>rfl) WL j 0 _ hget (by decide))).1;have u1:=(hcw _ _ (YP (f:=codC) (k:=3) (fun _=>rfl) WL j 1 _ hget (by decide))).1;have u2:=(hcw _ _ (YP (f:=codC) (k:=3) (fun _=>rfl) WL j 2 _ hget (by decide))).1;have qks:=vQ.out.cost _ (Xd hjw);have HTK:Hid (R0::(WL.take (j+1)).map (JM n)=(R0::(WL.take j).map (JM n))++[JM n WL[j]]):=zH (by rw[Xx,hget,Wc];rfl);have kD:Hid ((R0::(WL.take j).map (JM n)).length=j+1):=zH (by rw[XI,Xm,XW];omega);generalize R0::(WL.take j).map (JM n)=LL at*
   generalize WL[j]=t at*
   obtain⟨a,b,cc⟩:=t;dsimp only at qks;replace u0:wr.cell? ⟨gw,j*3,none⟩=some (.int .i64 a):=u0;replace u1:wr.cell? ⟨gw,j*3+1,none⟩=some (.int .i64 b):=u1;replace u2:wr.cell? ⟨gw,j*3+2,none⟩=some (.int .i64 cc):=u2;have wX:Hid (vY n a b (-cc)=((JM n (a,b,cc)).1,-cc)):=zH rfl;have HRW:Hid ((JM n (a,b,cc)).1.length=n/\JM n (a,b,cc)=((JM n (a,b,cc)).1,-cc)):=zH ⟨Ez ..,rfl⟩;obtain⟨R,hR⟩:=zj (JM n (a,b,cc));rw[hR]at wX HRW HTK;clear hR hget hcw;have gG:Below wr.heap.size wr (wr.alloc (.cells #[.int .i64 a,.int .i64 b,.int .i64 cc] 166)):=zk;have Nw:=zH (qr wr [.int .i64 a,.int .i64 b,.int .i64 cc] 166);have Zf:=zi HX gG;have GA:=zH (HQ.out.keep gG);have aR:=kpO HO gG;clear gG;go_upto_region 9 with fail
   generalize wr.alloc (.cells #[.int .i64 a,.int .i64 b,.int .i64 cc] 166)=w7 at*
   clear u0 u1 u2;have e0:=Nw.out 0 _ rfl;have e1:=Nw.out 1 _ rfl;have e2:=Nw.out 2 _ rfl;go_wp2_with(first
    |(go_at_call 107;(with_reducible refine(Tz uu wX).mono ?_);rintro e w8 ⟨g8,rfl,hg8,hN8,hb⟩;have HG8:=zH (⟨Xe Zf.out.size hg8,hN8⟩:w1.heap.size<=g8/\qk w8 g8 R.1);have aa:=zi Zf hb;have BJ:=zH (GA.out.keep hb);have HO8:=kpO aR hb;have Nf:=zH (BJ.out.row' kD.out);clear hg8 hN8 hb)
    |(at_builtin;refine wpList_append_lies _ rfl _ _ 110 rfl w1.heap.size 113 i0 (.agg #[.slice none 0 0,.int .i64 0]) 2 32 Tryz.underlying110 hi hz0 hz1 hz2 rfl (by decide) _ (j+1) _ rfl (Nf.out.alloc _) ⟨_,0,none⟩ 1 1 (aL n g8 (-cc)) rfl rfl (qju _ _ _ _) (qhb _ _ _) (by decide) (by unfold maxLen;omega) (by omega) (by have:=aa.out.size;simp;omega) _ rfl ?_;intro g10 c10 Ms hown hgrow hor ql3;have ql2:Hid (kU Ms w1.heap.size (.slice (some ⟨g10,0,none⟩) (j+1+1) c10) n (gs++[g8]) (LL++[R])):=zH (BJ.out.app kD.out (q:=R) HG8.out HRW.out.1 (by rw[show R.2= -cc by rw[HRW.out.2]];exact hown) hgrow);have nM:=zH (jx (aa.out.alloc aa.out.size _) (Nf.out.alloc _) (by have:=aa.out.size;simp;omega) hgrow);have qkm:=zH (qgj HO8.out Nf.out (by decide) hgrow);clear hown hgrow hor ql3))
   go_roundw;case rel=>exact⟨j+1,g10,c10,gs++[g8],by omega,by go_num,by go_num,by rw[HTK.out];exact ql2,qkm,nM⟩
   case measure=>simp[intOf];omega
  ·obtain rfl:j=WL.length:=by omega
   rw[XL]at HQ;have HS:=zH (kU.slc (by have:(R0::WL.map (JM n)).length=WL.length+1:=(by simp);rw[this];exact HQ.out) uu.out);go_wp2_with fail
   go_ret;exact⟨_,_,by simp,HS.out,zD HW HX⟩
def cZ:Nat->Int->List Int->Int
 |_,_,[]=>0
 |s,i,y::M=>(if(s:Int)=i then y else 0)+cZ (s+1) i M
theorem La:∀(M:List Int) (s:Nat) (i:Int),i<s->cZ s i M=0
 | [],_,_,_=>rfl
 |y::M,s,i,h=>by
  show(if(s:Int)=i then y else 0)+cZ (s+1) i M=0;rw[Xa (by omega),La M (s+1) i (by omega)];rfl
theorem q00:∀(M:List Int) (s k:Nat),cZ s ((s+k:Nat):Int) M=M[k]?.getD 0
 | [],_,_=>rfl
 |y::M,s,0=>by
  show(if(s:Int)=((s+0:Nat):Int)then y else 0)+cZ (s+1) ((s+0:Nat):Int) M=y;rw[Xb (by omega),La M (s+1) _ (by omega),Int.add_zero]
 |y::M,s,k+1=>by
  show(if(s:Int)=((s+(k+1):Nat):Int)then y else 0)+cZ (s+1) ((s+(k+1):Nat):Int) M=(y::M)[k+1]?.getD 0;rw[Xa (by omega),show s+(k+1)=s+1+k by omega,q00 M (s+1) k,Int.zero_add];rfl
theorem qgf(M:List Int)(i:Int):cZ 0 i M=atI M i:=by
 unfold atI;split
 ·grind [La]
 ·rename_i h;have:=q00 M 0 i.toNat
  grind
def iC(a b:Int)(s n:Nat):List Int:=(List.range n).map fun v:Nat=>(if((v+s:Nat):Int)=b then 1 else 0) - (if((v+s:Nat):Int)=a then 1 else 0)
theorem q6h(a b:Int)(s n:Nat):iC a b s (n+1)=((if(s:Int)=b then 1 else 0) - (if(s:Int)=a then 1 else 0))::iC a b (s+1) n:=by
 unfold iC;rw[List.range_succ_eq_map,List.map_cons,List.map_map];congr 1
 ·omega
 ·refine List.map_congr_left fun v _=> ?_
  grind
theorem WJ(a b:Int):∀(M:List Int) (s:Nat),aM (iC a b s M.length) M=cZ s b M - cZ s a M
 | [],s=>by rw[q38];rfl
 |y::M,s=>by
  rw[XI,q6h];show _*y+aM (iC a b (s+1) M.length) M=((if(s:Int)=b then y else 0)+cZ (s+1) b M) - ((if(s:Int)=a then y else 0)+cZ (s+1) a M)
  rw[WJ a b M (s+1)]
  grind
theorem IZ{x:zl}{a b most:Int}(hf:x.phi.length=x.code.length)(hp:∀t ∈x.phi,0<=t/\t<=4096)(hl:x.code.length<=64):VA (vY x.code.length a b most) x.phi=some (decide (atI x.phi b - atI x.phi a<=most)):=by
 have e1:(vY x.code.length a b most).1=iC a b 0 x.phi.length:=by
  unfold vY iC
  grind
 have e2:aM (vY x.code.length a b most).1 x.phi=atI x.phi b - atI x.phi a:=by
  grind [WJ,qgf]
 have hd:rU (vY x.code.length a b most).1 x.phi=some (aM (vY x.code.length a b most).1 x.phi):=q99 (P:=1) (Q:=4096) (by decide) (by decide) (by decide) (fun c hc=>by
  unfold vY at hc
  grind) (by grind) (by rw[e1];simp[iC];omega)
 unfold VA;rw[Xb (by rw[e1];simp[iC]),hd,e2];rfl
theorem qii{α:Type}{f g:α->Bool}:∀{L:List α},(∀q ∈L,f q=g q)->L.all f=L.all g
 | [],_=>rfl
 |a::L,h=>by grind
def JS(x:zl)(q:List Int×Int):Bool:=(VA q x.phi).getD false
theorem q6g{m:za}{l:List (List zq)}{k:Nat}{x:zl}(hx:m.methods[k]? =some x):bT m l (k:Int)=mD m k x (l[k]?.getD []) x.code.length:=by
 have hk:=(Xv.mp hx).1;have ah:zA m (k:Int)=x:=by unfold zA;grind
 unfold bT
 grind
theorem q7d{m:za}{f pc:Nat}{x:zl}{S:List zq}(hf:x.phi.length=x.code.length)(hp:∀t ∈x.phi,0<=t/\t<=4096)(hl:x.code.length<=64)(hn:(zx S (pc:Int)).seen=true->∀q ∈Qm m f S pc,0<=q):
  (q9 m f x S pc).all (JS x)=Ve m f x S pc:=by
 have hph:∀i:Int,0<=i->atI x.phi i=kY x i:=fun i hi=>by unfold atI kY;omega
 have hlow:∀k:Nat,0<=kY x (k:Int):=fun k=>by
  unfold kY;cases h:x.phi[(k:Int).toNat]? with
  |none=>grind
  |some v=>exact(hp v (by grind)).1
 unfold q9 Ve;by_cases hs:(zx S (pc:Int)).seen=true
 ·rw[Xb hs,hs,Bool.not_true,Bool.false_or];by_cases hnil:Qm m f S pc=[]
  ·rw[Xb hnil,hnil];have e:atI x.phi (-1)=0:=rfl;have:=hlow pc;simp only[List.all_cons,List.all_nil,Bool.and_true];unfold JS;rw[IZ hf hp hl,e,hph _ (by omega)]
   grind
  ·rw[Xa hnil,List.all_map];refine qii fun q hq=> ?_;show JS x (vY x.code.length (pc:Int) q (-(JU m x pc)))=dh m x pc q;unfold JS dh
   grind [IZ]
 grind
theorem RB{m:za}{f:Nat}{x:zl}{S:List zq}(hf:x.phi.length=x.code.length)(hp:∀t ∈x.phi,0<=t/\t<=4096)(hl:x.code.length<=64)(hn:∀pc:Nat,(zx S (pc:Int)).seen=true->∀q ∈Qm m f S pc,0<=q):
  ∀n,(mD m f x S n).all (JS x)=(decide (kY x 0<=x.pot)&& (List.range n).all (Ve m f x S))
 |0=>by
  show(JS x (vY x.code.length (-1) 0 x.pot)&& true)=(_&& true)
  congr 1;unfold JS;rw[IZ hf hp hl];show decide _=decide _;have e:atI x.phi (-1)=0:=rfl;have e2:atI x.phi 0=kY x 0:=by unfold atI kY;omega
  grind
 |n+1=>by
  show(mD m f x S n++q9 m f x S n).all (JS x)=_;rw[List.all_append,RB hf hp hl hn n,q7d hf hp hl (hn n),List.range_succ,List.all_append,Bool.and_assoc];simp
theorem qg3{m:za}{l:List (List zq)}{k:Nat}{x:zl}{S:List zq}(hm:zP m)(hx:m.methods[k]? =some x)(hS:l[k]? =some S)(hF:fD m (k:Int) S):(bT m l (k:Int)).all (JS x)= !VD m l k:=by
 have hxm:=Xr hx;have nT:=(hm.method hxm)
 have ah:zA m (k:Int)=x:=by unfold zA;grind
 rw[q6g hx,hS];show(mD m k x S x.code.length).all (JS x)=_;rw[RB nT.ph (fun t ht=>nT.fits.pt t ht) nT.fits.cl]
 ·unfold VD;rw[ah,hS,Bool.not_not];rfl
 ·intro pc hs q hq;have hpl:pc<S.length:=by
   rcases Xl pc S.length with h|h
   ·exact h
   ·unfold zx at hs;grind
  have he:=(hF.2 pc hpl hs).1;obtain⟨ins,hi⟩:∃i,x.code[pc]? =some i:=⟨_,Xc (by rw[<-ah,<-hF.1.len];exact hpl)⟩
  obtain⟨op,a,b⟩:=ins;have e1:=pG (st:=(zx S (pc:Int)).stack) hx hi;have:=AY (m:=m) (st:=(zx S (pc:Int)).stack) (F:=0) (P:=pc) (nT.fits.ct _ (by grind)) (nT.co _ (Xr hi)) (by grind);rw[<-e1]at this;exact(this q hq).1
theorem q76{m:za}{l:List (List zq)}{f:Int}{A:Option Addr}{c:Nat}{h:zh}{w0 w:World}{L:List Inq}(HI:Hid (zr w0 w0.heap.size h m))(HX:Hid (Below w0.heap.size w0 w))(HM:Hid (zP m))(HT:Hid (jO m w A c l))(HL:Hid (bT m l f=L)):
  Calls Tryz.prog 57 #[zv h m,.slice A l.length c,.int .i64 f] w fun e w'=>∃A' c',e= .returned (.slice A' L.length c')/\zd Be 2 w' w'.heap.size A' c' L/\Below w.heap.size w w':=by
 have H:=q75 m l f A c h w (HI.out.now HX.out) HM.out HT.out;rw[HL.out]at H;exact H
theorem TU{Q L:List Int}{most:Int}{n:Nat}{A B:Option Addr}{c d nl:Nat}{w:World}{r:Bool}(hn:Hid (Q.length=n))(hm:Hid (L.length=nl))(hq:Hid (zd zu 1 w w.heap.size A c Q))(hl:Hid (zd zu 1 w w.heap.size B d L))(hr:Hid ((VA (Q,most) L).getD false=r)):
  Calls Tryz.prog 58 #[.agg #[.slice A n c,.int .i64 most],.slice B nl d] w fun e w'=>∃k,e= .returned (.tuple #[.bool r,.int .i64 k])/\Below w.heap.size w w':=by
 obtain rfl:=hn.out;obtain rfl:=hm.out;exact(q7w (Q,most) L A B c d w hq.out hl.out).mono fun e w' ⟨h1,h2⟩=>⟨(if(VA (Q,most) L).isSome then 0 else 14),by rw[h1,hr.out],h2⟩
set_option maxHeartbeats 12800000 in
theorem q79(m:za)(l:List (List zq))(A:Option Addr)(c:Nat)(h:zh)(w:World)(H:zr w w.heap.size h m)(hm:zP m)(hT:jO m w A c l):
  Calls Tryz.prog 36 #[zv h m,.slice A l.length c] w fun e w'=>e= .returned (.tuple #[.int .i64 (if 0<=Zy m l then Zy m l else 0),.int .i64 (if 0<=Zy m l then 6 else 0)])/\Below w.heap.size w w':=by
 have HW:=zH (vU (w:=w) (h:=h) (m:=m));have HBX:=zH (qd w h m);have HZ:Hid (w.heap.size<(w.alloc (ze h m)).heap.size):=zH (by simp);have HI:=zH (H.now HW.out);have HM:=zH hm;have hle:=H.methods.le;have hcap:=H.methods.cap;have CG:=zH (Eu hT HW.out);obtain⟨P,hP⟩:=zj (Zy m l);have HP:=zH hP;rw[hP];clear H hm hT hP;go_enter Tryz.func36,Tryz.ntmps36;go_upto_region 1 with fail
 generalize w.alloc (ze h m)=w1 at*
 obtain⟨q0,q1,q2,q3,q4,q5,q6⟩:=HBX.out;go_wp2_with fail
 clear q0 q1 q2 q3 q4 q5 q6;go_loopw [15] (fun i wr=>∃k:Nat,k<=m.methods.length/\i= .int .i64 k/\Hid (∀g,g<k->VD m l g=false)/\Hid (Below w1.heap.size w1 wr)) (fun i _=>m.methods.length - (intOf i).toNat)
 case atStart=>exact⟨0,Xn _,rfl,(by grind [zH]),zH (zb _ _)⟩
 case round=>
  obtain⟨k,hk,rfl,HA,HX⟩:=hrel;by_cases hlt:k<m.methods.length;rotate_left
  ·have hki:¬(k:Int)<(m.methods.length:Int):=by omega
   have hPn:P= -1:=by rw[<-HP.out];exact Tx (fun g hg=>HA.out g (by omega))
   go_wp2_with fail
   go_ret2
   exact⟨by simp_all,zD HW HX⟩
  have hki:(k:Int)<(m.methods.length:Int):=by omega
  have hkl:k<l.length:=by rw[CG.out.2.2.1];exact hlt
  obtain⟨ad,qE,eA,hab,hin,hcm⟩:=Zx HI.out hlt;have hgx:m.methods[k]? =some m.methods[k]:=(by grind)
  have F8:=qg3 HM.out hgx (Xc hkl) (CG.out.2.2.2 k l[k] (by grind));obtain⟨A0,Ab,A2,A3,A4,k0,k1,k2,k3,k4⟩:=h;dsimp only at eA hle hcap;subst eA;generalize m.methods[k]=x at*
  have fJ:=zH F8;obtain⟨b0,b1,b2,b3,b4,b5,b6,b7⟩:=hcm.keep HX.out (by grind [zC]);have xx:Hid (zd zu 1 w1 w1.heap.size qE.A7 qE.k7 x.phi):=zH hin.phi;obtain⟨xA0,xA1,Yb,JA,Zm,Zo,vP,vF⟩:=qE;dsimp only at b0 b1 b4 b7 xx;obtain⟨np,Vq⟩:=zj (x.phi.length);have vR:=zH Vq;rw[Vq]at b7;have yw:Hid (VD m l k=true->P=(k:Int)):=zH (fun hb=>by rw[<-HP.out];exact Lx hlt HA.out hb);obtain⟨L,hL⟩:=zj (bT m l (k:Int));have wW:=zH hL;rw[hL]at fJ;have xq:Below wr.heap.size wr (wr.alloc (.cells #[.slice xA0 x.args.length Zm,.slice xA1 x.locals.length Zo,.int .i64 x.ret.1,.int .i64 x.ret.2,.slice Yb x.code.length vP,.int .i64 x.depth,.int .i64 x.pot,.slice JA np vF] 48)):=zk;have zp:=zi HX xq;have HXB:Hid (zm (wr.alloc (.cells #[.slice xA0 x.args.length Zm,.slice xA1 x.locals.length Zo,.int .i64 x.ret.1,.int .i64 x.ret.2,.slice Yb x.code.length vP,.int .i64 x.depth,.int .i64 x.pot,.slice JA np vF] 48)) wr.heap.size [.slice xA0 x.args.length Zm,.slice xA1 x.locals.length Zo,.int .i64 x.ret.1,.int .i64 x.ret.2,.slice Yb x.code.length vP,.int .i64 x.depth,.int .i64 x.pot,.slice JA np vF] 48):=zH (zm.new wr _ _);obtain⟨q0,q1,q2,q3,q4,q5,q6⟩:=HBX.out.keep HX.out HZ.out;clear hgx F8 hin hcm hab hL xq Vq;go_upto_region 4 with fail
  clear q0 q1 q2 q3 q4 q5 q6 b0 b1 b2 b3 b4 b5 b6 b7;obtain⟨N,hN⟩:∃z,wr.heap.size=z:=⟨_,rfl⟩
  simp only[hN]at HXB⊢
  generalize wr.alloc (.cells #[.slice xA0 x.args.length Zm,.slice xA1 x.locals.length Zo,.int .i64 x.ret.1,.int .i64 x.ret.2,.slice Yb x.code.length vP,.int .i64 x.depth,.int .i64 x.pot,.slice JA np vF] 48)=w3 at*
  obtain⟨q0,q1,q2,q3,q4,q5,q6⟩:=HBX.out.keep zp.out HZ.out;have HT3:=zH (Eu CG.out zp.out);go_wp2_with(go_at_call 57;(with_reducible refine(q76 HI zp HM HT3 wW).mono ?_);rintro e w5 ⟨A5,c5,rfl,hs,hb⟩;have nX:=zH hs;have qc:=zi zp hb;have q15:=zH (HXB.out.keep hb (zm.lt HXB.out));clear hs hb)
  clear q0 q1 q2 q3 q4 q5 q6;have hl51:=nX.out.le;have hl52:=nX.out.cap;go_loopw [25] (fun i wr=>∃j:Nat,j<=L.length/\i= .int .i64 j/\Hid ((L.take j).all (JS x)=true)/\Hid (Below w5.heap.size w5 wr)) (fun i _=>L.length - (intOf i).toNat)
  case atStart=>exact⟨0,Xn _,rfl,zH (by simp_all),zH (zb _ _)⟩
  case round=>
   clear HX;obtain⟨j,hj,rfl,HJ,HY⟩:=hrel;by_cases hjl:j<L.length;rotate_left
   ·obtain rfl:j=L.length:=by omega
    rw[XL]at HJ;have HB1:Hid (∀g,g<k+1->VD m l g=false):=zH (fun g hg=>by
     rcases Xl g k with q|q
     ·exact HA.out g q
     ·obtain rfl:g=k:=by omega
      have:=fJ.out;rw[HJ.out]at this;simpa using this.symm)
    have QU:=zH (zD qc HY);go_wp2_with fail
    go_roundw;case rel=>exact⟨k+1,by omega,by go_num,HB1,QU⟩
    case measure=>simp[intOf];omega
   have hji:(j:Int)<(L.length:Int):=by omega
   obtain⟨VR,rfl,su,⟨Aq,cq,u0,uw⟩,u1⟩:=nX.out.row.at_ hjl;have HTK:Hid (L.take (j+1)=L.take j++[L[j]]):=zH (by rw[Xx,Xc hjl];rfl);have iR:Hid (L[j] ∈L):=zH (Xd hjl);generalize L[j]=q at*
   obtain⟨Q,most⟩:=q;dsimp only at u0 u1 uw;obtain⟨nq,hnq⟩:∃n,Q.length=n:=⟨_,rfl⟩
   have sU:=zH hnq;rw[hnq]at u0;have HSQ:=zH uw;have v0:=(HY.out.cell (p:=VR.add (j*2)) (by exact zZ su)).trans u0;have v1:=(HY.out.cell (p:=zc (VR.add (j*2)) 1) (by show(VR.add _).block<_;rw[zC];exact su)).trans u1;have hA8:Below wr.heap.size wr (wr.alloc (.cells #[.slice Aq nq cq,.int .i64 most] 113)):=zk;have HC8:=zH (qr wr [.slice Aq nq cq,.int .i64 most] 113);have oM:=zi HY hA8;have aa:=zH (zD qc oM);clear u0 u1 hnq uw hA8;go_upto_region 7 with fail
   generalize wr.alloc (.cells #[.slice Aq nq cq,.int .i64 most] 113)=w8 at*
   clear v0 v1;have e0:=HC8.out 0 _ rfl;have e1:=HC8.out 1 _ rfl;have b7:=(q15.out.keep oM.out (zm.lt q15.out)).cells 7 _ rfl;have BJ:Hid (zd zu 1 w8 w8.heap.size Aq cq Q):=zH (jP zu.keeps HSQ.out oM.out);have HP8:Hid (zd zu 1 w8 w8.heap.size JA vF x.phi):=zH (jP zu.keeps xx.out aa.out);obtain⟨r,hr⟩:=zj ((VA (Q,most) x.phi).getD false);have HR:=zH hr;clear hr;cases r
   ·have hPk:P=(k:Int):=yw.out (by
     have h1:=fJ.out;have h2:L.all (JS x)=false:=by
      rw[X6];intro ha;have:=Xy.mp ha _ iR.out;unfold JS at this;rw[HR.out]at this;cases this
     rw[h2]at h1;simpa using h1.symm)
    go_wp2_with(go_at_call 58;(with_reducible refine(TU sU vR BJ HP8 HR).mono ?_);rintro e w9 ⟨ke,rfl,hb⟩;have QU:=zi aa hb;clear hb)
    go_ret2
    exact⟨by first|rfl|simp,zD HW QU⟩
   ·have HJ1:Hid ((L.take (j+1)).all (JS x)=true):=zH (by
     rw[HTK.out,List.all_append,HJ.out];show(JS x (Q,most)&& true)=true;unfold JS;rw[HR.out];rfl)
    go_wp2_with(go_at_call 58;(with_reducible refine(TU sU vR BJ HP8 HR).mono ?_);rintro e w9 ⟨ke,rfl,hb⟩;have HY9:=zi oM hb;clear hb)
    go_roundw;case rel=>exact⟨j+1,by omega,by go_num,HJ1,HY9⟩
    case measure=>simp[intOf];omega
theorem q7a(m:za)(l:List (List zq))(A:Option Addr)(c:Nat)(h:zh)(w:World)(H:zr w w.heap.size h m)(hs:Ql m=true)(hT:jO m w A c l):
  Calls Tryz.prog 36 #[zv h m,.slice A l.length c] w fun e w'=>e= .returned (.tuple #[.int .i64 (if 0<=Zy m l then Zy m l else 0),.int .i64 (if 0<=Zy m l then 6 else 0)])/\Below w.heap.size w w':=q79 m l A c h w H (Dz hs) hT
