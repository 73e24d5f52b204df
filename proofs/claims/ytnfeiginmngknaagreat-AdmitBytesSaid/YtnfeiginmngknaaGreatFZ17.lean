import Derived.Test.YtnfeiginmngknaaGreatFZ15
namespace Go.Proofs.YtnfeiginmngknaaGreat
set_option maxRecDepth 100000
set_option linter.unusedVariables false
set_option linter.unusedSimpArgs false
open Go.ChangeShapes Go.WideShapes Go.ChangeAt Go.RowKit
def fA(v:Value)(A:Option Addr):Prop:=∀g,v.ownBlock=some g->∀ad,A=some ad->g≠ad.block
theorem I8{w w3:World}{o:Obj}{B:Nat}{A:Option Addr}{xs:List Value}{v:Value}(h:zw w B A xs)(hB:B<=w.heap.size)(hg:(w.alloc o).grownBy w3 v.ownBlock)(ha:fA v A):zw w3 B A xs:=fun j u hu=>by
 obtain⟨ad,e,hb,hc⟩:=h j u hu;refine⟨ad,e,hb,?_⟩;have hk:(ad.add j).block=ad.block:=by rw[zC]
 have h1:w3.cell? (ad.add j)=(w.alloc o).cell? (ad.add j):=XU (hg.block _ (by rw[hk];simp;omega) (fun e'=>ha _ e'.symm ad e hk));rw[h1];exact(((zb w.heap.size w).alloc (zn _) o).cell (by rw[hk];omega)).trans hc
theorem q5o{w:World}{A:Option Addr}{B N e n c:Nat}{xs:List Value}(ho:w.ownsRow B e 1 (.slice A n c) n xs)(h:N<B):fA (.slice (some ⟨N,0,none⟩) 0 0) A:=fun g hg ad e=>by
 have h1:N=g:=by simpa[Value.ownBlock]using hg
 have h2:=(ho.lt ad.block (by rw[e];rfl)).1;omega
theorem DN{v:Value}{A:Option Addr}{B g9 H n c:Nat}(h:fA v A)(hlt:∀ad,A=some ad->ad.block<B)(hor:v.ownBlock=some g9\/g9=H)(hH:B<=H):fA (.slice (some ⟨g9,0,none⟩) n c) A:=fun g hg ad e=>by
 have:g9=g:=by simpa[Value.ownBlock]using hg
 subst this;rcases hor with q|q
 ·exact h _ q ad e
 ·have:=hlt ad e;omega
set_option maxHeartbeats 3200000 in
theorem q3c(m:za)(a b:Int)(h:zh)(w:World)(H:zr w w.heap.size h m)(hn:m.classes.length<=1000):
  Calls Tryz.prog 42 #[zv h m,qt 32 a b] w (ZR (qC m 32 a b) w):=by
 obtain⟨L,hL⟩:=zj (YS m.classes a);rw[show qC m 32 a b=QO m b (YS m.classes a)from rfl,hL];have Qx:L.length<=1000:=by rw[<-hL];exact Xe (uN _ _ _) hn
 have Oq:=zH hL;clear hL;obtain⟨i0,hi,hz0,hz1,hz2⟩:=info_parts ZL;obtain⟨hq,hc,hb,hz⟩:=uP h m 32 a b w;have HW:=zH hb;have HC:=zH hc;have HZ:=zH hz;have HBX:=zH hq;have zO:=zH (H.now hb);have hn1:=hn;have hkc:=H.classes.cap;clear hb hq hc hz H;go_enter Tryz.func42,Tryz.ntmps42;go_upto_region 1 with fail
 generalize(w.alloc (ze h m)).alloc (.cells #[.int .i64 32,.int .i64 a,.int .i64 b] 50)=w1 at*
 go_upto_region 2 with fail
 have HO:=zH (gM w1 3);have HX:=zH (zk (w:=w1) (o:=(.cells #[] 3)));have qlx:Hid (w1.heap.size<(w1.alloc (.cells #[] 3)).heap.size):=zH (by simp);generalize w1.alloc (.cells #[] 3)=w2 at*
 have hlt:w.heap.size+1<w1.heap.size:=by have:=HZ.out;omega
 have HL:=zH hlt;have GJ:Hid (w.heap.size<w1.heap.size):=zH (by omega);clear hlt;have j0:=(HC.out.keep HX.out HL.out) 0 _ rfl;have j1:=(HC.out.keep HX.out HL.out) 1 _ rfl;obtain⟨q0,q1,q2,q3,q4,q5,q6⟩:=HBX.out.keep HX.out GJ.out;have hsz:=HX.out.size;go_wp2_with(first|(go_at_call 66;(with_reducible refine(qbz zO HX Oq hn1).mono ?_);rintro e w5 ⟨v5,rfl,ho,hb⟩;have HO:=kpO HO hb;have HX:=zi HX hb;obtain⟨A5,c5,rfl,hl5,g1,g2⟩:=Ji ho;have qh:=zH hl5;have aQ:=zH (q5o ho qlx.out);clear hb ho hl5))
 go_loopw [5,7] (fun v i wr=>∃k:Nat,k<=L.length/\i= .int .i64 k/\Hid (wr.ownsRow w1.heap.size 3 1 v (QO m b (L.take k)).length ((QO m b (L.take k)).map (Value.int .i64)))/\Hid (Below w1.heap.size w1 wr)/\Hid (zw wr w5.heap.size A5 (L.map (Value.int .i64)))/\Hid (fA v A5)/\Hid (w5.heap.size<=wr.heap.size)) (fun _ i _=>L.length - (intOf i).toNat)
 case atStart=>exact⟨0,Xn _,rfl,HO,HX,qh,aQ,zH (zn _)⟩
 case round=>
  clear HO HX qh aQ j0 j1 q0 q1 q2 q3 q4 q5 q6;obtain⟨k,hk,rfl,HO,HX,qh,aQ,Vl⟩:=hrel;by_cases hlt:k<L.length
  ·obtain⟨ad,rfl,hab,hc0⟩:=qh.out k (.int .i64 L[k]) (by rw[XF,Xc hlt];rfl);have hs:=Pk (m:=m) (b:=b) hlt;have hyl:(QO m b (L.take k)).length<=1000:=Xe (IA _ _ _) (by rw[XW];omega);obtain⟨q,hq⟩:=zj (L[k]);rw[hq]at hs hc0;have yH:Hid ((ad.add k).block<wr.heap.size):=zH (by rw[zC];exact Xp hab Vl.out);have p:=hc0;have MU:Hid (∀ad',some ad=some ad'->ad'.block<w5.heap.size):=zH (fun ad' e=>by injection e with e;subst e;exact hab);obtain⟨o,ho⟩:=zj (kP m.classes q b);rw[ho]at hs;have uy:=zH ho;have HS:=zH hs;clear hs ho hq hab hc0;generalize QO m b (L.take k)=Y at*
   obtain⟨q0,q1,q2,q3,q4,q5,q6⟩:=HBX.out.keep HX.out GJ.out;have j2:=(HC.out.keep HX.out HL.out) 2 _ rfl;have qf:Hid (Below w1.heap.size w1 wr.drew):=zH HX.out.drew;have M4:Hid (Below wr.heap.size wr wr.drew):=zH (zb wr.heap.size wr).drew;have q21:Hid (zw wr.drew w5.heap.size (some ad) (L.map (Value.int .i64))):=zH (qh.out.below_to M4.out Vl.out);have sJ:Hid (wr.drew.ownsRow w1.heap.size 3 1 u5 Y.length (Y.map (Value.int .i64))):=zH (Yr HO.out (zb wr.heap.size wr).drew (vA HO.out));cases o with
   |none=>
    go_wp2_with fail
    go_region_held3 (fun w'=>I7h w.heap.size h m w' (w'.cell? ⟨w.heap.size+1,2,none⟩=some (.int .i64 b)/\w'.cell? (ad.add k)=some (.int .i64 q))) (first|exact⟨q0,q1,q2,q3,q4,q5,q6,j2,p⟩) (first|(go_at_call 67;(with_reducible refine(K5 zO qf uy).mono ?_);rintro e w2 ⟨rfl,hb⟩;have HX2:=zi qf hb;have uh:=zH ((q21.out.below_to hb Vl.out):zw w2 w5.heap.size (some ad) (L.map (Value.int .i64)));have dH:Hid (w5.heap.size<=w2.heap.size):=zH (Xe Vl.out hb.size);have qm:=kpO sJ hb;have hsz2:=HX2.out.size;obtain⟨q0,q1,q2,q3,q4,q5,q6⟩:=HBX.out.keep HX2.out GJ.out;have j2:=(HC.out.keep HX2.out HL.out) 2 _ rfl;have p:=(hb.cell (p:=ad.add k) yH.out).trans p;clear hb))
    go_wp2_with fail
    go_roundw;case rel=>exact⟨k+1,by omega,by go_num,zH (by rw[HS.out,Option.toList_none,List.append_nil];exact qm.out),HX2,uh,aQ,dH⟩
    case measure=>simp[intOf];omega
   |some g=>
    go_wp2_with fail
    go_region_held3 (fun w'=>I7h w.heap.size h m w' (w'.cell? ⟨w.heap.size+1,2,none⟩=some (.int .i64 b)/\w'.cell? (ad.add k)=some (.int .i64 q))) (first|exact⟨q0,q1,q2,q3,q4,q5,q6,j2,p⟩) (first|(go_at_call 67;(with_reducible refine(K5 zO qf uy).mono ?_);rintro e w2 ⟨rfl,hb⟩;have HX2:=zi qf hb;have uh:=zH ((q21.out.below_to hb Vl.out):zw w2 w5.heap.size (some ad) (L.map (Value.int .i64)));have dH:Hid (w5.heap.size<=w2.heap.size):=zH (Xe Vl.out hb.size);have qm:=kpO sJ hb;have hsz2:=HX2.out.size;obtain⟨q0,q1,q2,q3,q4,q5,q6⟩:=HBX.out.keep HX2.out GJ.out;have j2:=(HC.out.keep HX2.out HL.out) 2 _ rfl;have p:=(hb.cell (p:=ad.add k) yH.out).trans p;clear hb))
    go_wp2_with(first|(at_builtin;refine wpList_append_lies _ rfl _ _ 27 rfl w1.heap.size 3 i0 (.int .i64 0) 1 8 Tryz.underlying27 hi hz0 hz1 hz2 rfl (by decide) _ _ _ rfl (qm.out.alloc _) ⟨_,0,none⟩ 1 1 [.int .i64 g] rfl rfl (AV _ _) (AC _) (by decide) (by unfold maxLen;omega) (by omega) (by simp;omega) _ rfl ?_;intro g9 c9 w3 hown' hgrow hor hlt9;have hR:=o6 qm.out hsz2 HX2.out hown' hgrow;have qa:=zH hR.1;have zp:=zH hR.2;have NT:=zH (I8 uh.out dH.out hgrow aQ.out);have Oi:Hid (fA (.slice (some ⟨g9,0,none⟩) (Y.length+1) c9) (some ad)):=zH (DN aQ.out MU.out hor (by have:=dH.out;simp;omega));have ME:Hid (w5.heap.size<=w3.heap.size):=zH (by have h1:=hgrow.size;have h2:=dH.out;simp at h1;omega);clear hown' hgrow hR hor hlt9))
    go_roundw;case rel=>exact⟨k+1,by omega,by go_num,zH (by rw[HS.out];exact qa.out),zp,NT,Oi,ME⟩
    case measure=>simp[intOf];omega
  ·obtain rfl:k=L.length:=by omega
   go_wp2_with fail
   go_ret;rw[XL]at HO;exact⟨_,rfl,js HO.out HW.out.size,zD HW HX⟩
def WZ(w0 w:World)(l:List Int)(e:Ending)(w':World):Prop:=∃A k,e= .returned (.slice A l.length k)/\zd zu 1 w0 w0.heap.size A k l/\w=w'
theorem q6f(m:za)(i:Nat)(x:zW)(h:zh)(w0 w:World)(H:zd vw 3 w0 w0.heap.size h.A0 h.c0 m.classes)(hX:Below w0.heap.size w0 w)(hx:m.classes[i]? =some x)(hs:x.sup<m.classes.length):
  Calls Tryz.prog 133 #[.slice h.A0 m.classes.length h.c0,.int .i64 (i:Int)] w (WZ w0 w (Zw m x)):=by
 have hlc:=H.le;have hcm:=H.cap;obtain⟨hil,hxe⟩:=Xv.mp hx;obtain⟨ad,dF,hab,hcl⟩:=H.row i x hx;obtain⟨s0,⟨A1,k1,s1,hs1⟩,⟨A2,k2,s2,hs2⟩,sr⟩:=hcl;have r0:=(hX.cell (p:=ad.add (i*3)) (by exact zZ hab)).trans s0;have HL:=zH H;have HX:=zH hX;clear hx hxe s0 s1 s2 hs1 hs2 H hX;rw[dF];by_cases h0:0<=x.sup
 ·obtain⟨ny,hny⟩:=Xj h0;have xS:ny<m.classes.length:=by omega
  obtain⟨xO,e0,Gz,hcy⟩:=HL.out.row.at_ xS;have iU:=zH (show Zw m x=m.classes[ny].slots by unfold Zw;rw[Xb h0,hny,Xo,Xc xS]);generalize m.classes[ny]=y at*
  obtain⟨_,_,⟨ML,NA,sy,hsy⟩,_⟩:=hcy;have sy:=(HX.out.cell (p:=zc (xO.add (ny*3)) 2) (by show(xO.add _).block<_;rw[zC];exact Gz)).trans sy;rw[dF]at e0;obtain rfl:ad=xO:=by injection e0
  rw[hny]at r0;have HSY:=zH hsy;clear hsy e0 dF h0;go_enter Tryz.func133,Tryz.ntmps133;go_wp2
  go_ret;exact⟨ML,NA,by rw[iU.out];rfl,by rw[iU.out];exact HSY.out,rfl⟩
 ·have iU:=zH (show Zw m x=[]from Xa h0);have h1:x.sup<0:=by omega
  clear dF h0;go_enter Tryz.func133,Tryz.ntmps133;go_wp2
  go_ret;exact⟨none,0,by rw[iU.out];rfl,by rw[iU.out];exact⟨zn _,by omega,qD.nil⟩,rfl⟩
def Vy(m:za)(c s:Int):Bool:=match m.methods[s.toNat]? with
 |none=>false
 |some f=>match f.args with
  | []=>false
  |t::_=>zB (zy m.classes) 3 c t.1 t.2
theorem qat{m:za}{c:Int}{n:Nat}(h:m.methods.length<=n):Vy m c (n:Int)=false:=by
 unfold Vy;rw[Xo,XE h]
theorem qau{m:za}{c:Int}{n:Nat}{f:zl}(h:m.methods[n]? =some f)(hf:f.args=[]):Vy m c (n:Int)=false:=by
 unfold Vy;rw[Xo,h];dsimp only;rw[hf]
theorem qfm{m:za}{c:Int}{n:Nat}{f:zl}{t:Int×Int}{r:List (Int×Int)}(h:m.methods[n]? =some f)(hf:f.args=t::r):Vy m c (n:Int)=zB (zy m.classes) 3 c t.1 t.2:=by
 unfold Vy;rw[Xo,h];dsimp only;rw[hf]
theorem qjt{m:za}{h:zh}{c t0 t1:Int}{w0 w:World}{r:Bool}(HI:Hid (zr w0 w0.heap.size h m))(HX:Hid (Below w0.heap.size w0 w))(HN:Hid (m.classes.length<=1000))(HR:Hid (zB (zy m.classes) 3 c t0 t1=r)):
  Calls Tryz.prog 148 #[.slice h.A0 m.classes.length h.c0,zF 3 c,zF t0 t1] w fun e w'=>e= .returned (.bool r)/\Below w.heap.size w w':=by
 have H:=eG (zy m.classes) 3 c t0 t1 h.A0 h.c0 w.heap.size w (by rw[kE];have:=HN.out;omega) (zn _) (eB (HI.out.now HX.out).classes.row);rw[HR.out,kE]at H;exact H
set_option maxHeartbeats 1600000 in
theorem q5y(m:za)(c:Int)(n:Nat)(h:zh)(w:World)(H:zr w w.heap.size h m)(hn:m.classes.length<=1000):
  Calls Tryz.prog 134 #[zv h m,.int .i64 (n:Int),.int .i64 c] w fun e w'=>e= .returned (.bool (Vy m c (n:Int)))/\Below w.heap.size w w':=by
 have HW:=zH (vU (w:=w) (h:=h) (m:=m));have HBX:=zH (qd w h m);have HZ:Hid (w.heap.size<(w.alloc (ze h m)).heap.size):=zH (by simp);have HI:=zH (H.now HW.out);have HN:=zH hn;have l3:=H.methods.le;have bz:=H.methods.cap;clear H hn;go_enter Tryz.func134,Tryz.ntmps134;go_upto_region 1 with fail
 generalize w.alloc (ze h m)=w1 at*
 obtain⟨q0,q1,q2,q3,q4,q5,q6⟩:=HBX.out;by_cases hnl:n<m.methods.length
 ·obtain⟨zE,e3,j6,hcm⟩:=HI.out.methods.row.at_ hnl;have bA:=zH (Xc hnl);have VP:=zH e3;generalize m.methods[n]=f at*
  obtain⟨fa,fl,fr,fc,fd,fp,fh⟩:=f;obtain⟨⟨Vn,j0,f0,hf0⟩,_,_,_,_,_,_,_⟩:=hcm;dsimp only at f0 hf0;have dE:=zH hf0;have hj0:=hf0.le;have Nl:=hf0.cap;rw[e3]at q3;clear e3 hf0;by_cases sO:fa.length=0
  ·have SL:=zH (qau (c:=c) bA.out (Wp sO));have ht0:((fa.length:Int)==0)=true:=XX.mpr (by omega);clear sO;go_wp2_with fail
   go_ret;exact⟨by rw[SL.out];rfl,HW.out⟩
  ·have hfp:0<fa.length:=by omega
   have ht0:((fa.length:Int)==0)=false:=XG.mpr (by omega);have Bu:=zH (show fa=fa[0]::fa.drop 1 from Wq hfp);obtain⟨kH,rfl,CU,r0,r1⟩:=dE.out.row.at_ hfp;have jX:Hid (∀W,Below w1.heap.size w1 W->W.cell? (zE.add (n*8))=some (.slice (some kH) fa.length j0)):=zH (fun W hW=>(hW.cell (p:=zE.add (n*8)) (by exact zZ j6)).trans f0);clear sO;generalize fa[0]=t at*
   obtain⟨t0,t1⟩:=t;rw[Nat.zero_mul,show kH.add 0=kH by simp[Addr.add]]at r0 r1;have HR2:Hid (∀W,Below w1.heap.size w1 W->W.cell? kH=some (.int .i64 t0)/\W.cell? (zc kH 1)=some (.int .i64 t1)):=zH (fun W hW=>zf.keeps (x:=(t0,t1)) ⟨r0,r1⟩ CU (zn _) (fun _ hq=>hW.cell hq));obtain⟨r0,r1⟩:=HR2.out _ (zb _ _);have qf:Hid (Below w1.heap.size w1 w1.drew):=zH (zb _ _).drew;obtain⟨d4,hd4⟩:∃d,zB (zy m.classes) 3 c t0 t1=d:=⟨_,rfl⟩
   have D4:=zH hd4;have SL:=zH ((qfm (c:=c) bA.out Bu.out).trans hd4);clear hd4 CU;go_upto_region 3 with fail
   go_region_held3 (fun w'=>w'.cell? ⟨w.heap.size,0,none⟩=some (.slice h.A0 m.classes.length h.c0)/\w'.cell? ⟨w.heap.size,3,none⟩=some (.slice (some zE) m.methods.length h.c3)/\w'.cell? (zE.add (n*8))=some (.slice (some kH) fa.length j0)/\w'.cell? kH=some (.int .i64 t0)/\w'.cell? (zc kH 1)=some (.int .i64 t1)) (first|exact⟨q0,q3,f0,r0,r1⟩) (first|(go_at_call 148;(with_reducible refine(qjt HI qf HN D4).mono ?_);rintro e w3 ⟨rfl,hb⟩;have HX:=zi qf hb;obtain⟨q0,q1,q2,q3,q4,q5,q6⟩:=HBX.out.keep HX.out HZ.out;rw[VP.out]at q3;have f0:=jX.out _ HX.out;obtain⟨r0,r1⟩:=HR2.out _ HX.out;clear hb))
   go_wp2_with fail
   go_ret;exact⟨by rw[SL.out];rfl,HW.out.trans (HX.out.mono (Xg HZ.out))⟩
 ·have SL:=zH (qat (c:=c) (m:=m) (Nat.le_of_not_lt hnl));go_wp2_with fail
  go_ret;exact⟨by rw[SL.out];rfl,HW.out⟩
theorem q86:(Tryz.prog.info? 24).map (fun i=>(i.zero,i.size,i.bytes))=some (some (.slice none 0 0),1,24):=by kernel_rfl
theorem V8(w:World)(vs:List Value)(T:TypeId):zw (w.alloc (.cells vs.toArray T)) (w.heap.size+1) (some ⟨w.heap.size,0,none⟩) vs:=fun j u hu=>
 ⟨_,rfl,by grind,by
  rw[show Addr.add ⟨w.heap.size,0,none⟩ j=⟨w.heap.size,j,none⟩by unfold Addr.add;grind];simp_all⟩
theorem qgk(w:World)(v:Value)(T:TypeId):(w.alloc (.cells #[v] T)).ownsRow w.heap.size T 1 (.slice (some ⟨w.heap.size,0,none⟩) 1 1) 1 [v]:=
 ⟨rfl,.inr ⟨w.heap.size,1,#[v],rfl,zn _,Xz _ _,zn _,by unfold maxLen;omega,rfl,rfl⟩⟩
def mq(w:World)(B:Nat)(ls:List (List (Int×Int)))(vs:List Value):Prop:=
 vs.length=ls.length/\∀(i:Nat) l,ls[i]? =some l->∃A c,vs[i]? =some (.slice A l.length c)/\zd zf 2 w B A c l
theorem mq.nil{w:World}{B:Nat}:mq w B [] []:=⟨rfl,fun i l h=>by simp at h⟩
theorem mq.snoc{w:World}{B:Nat}{ls:List (List (Int×Int))}{vs:List Value}{l:List (Int×Int)}{A:Option Addr}{c:Nat}(h:mq w B ls vs)(hl:zd zf 2 w B A c l):mq w B (ls++[l]) (vs++[.slice A l.length c]):=
 ⟨by simp[h.1],fun i l' hi=>by
  rcases Xl i ls.length with g|g
  ·rw[XO g]at hi;obtain⟨A',c',h1,h2⟩:=h.2 i l' hi
   grind
  ·rw[XN g]at hi;have e:i - ls.length=0:=by
    grind
   rw[e]at hi;simp at hi;subst hi;exact⟨A,c,by rw[XN (by rw[h.1];exact g),h.1,e];rfl,hl⟩⟩
theorem qcr{w0 w:World}{B e:Nat}{v:Value}{ls:List (List (Int×Int))}{vs:List Value}(hL:mq w0 w0.heap.size ls vs)(hb:Below w0.heap.size w0 w)(ho:w.ownsRow B e 1 v vs.length vs):
  ∃A c,v= .slice A ls.length c/\zd (zM zf 2) 1 w w.heap.size A c ls:=by
 obtain⟨A,c,rfl,hl⟩:=Ac ho;have hlc:vs.length<=c/\c<=9223372036854775807:=by
  grind [Je]
 refine⟨A,c,by rw[hL.1],by rw[<-hL.1];exact hlc.1,hlc.2,fun i l hi=> ?_⟩;obtain⟨A',c',h1,h2⟩:=hL.2 i l hi;obtain⟨ad,h3,h4,h5⟩:=hl i _ h1;exact⟨ad,h3,h4,A',c',by grind,(h2.below_to zf.keeps hb (zn _)).keep' zf.keeps hb.size (fun _ _=>rfl)⟩
def Bj(m:za):Bool:=m.methods.all fun x=>Qu x.ret m.classes.length
def JI(m:za)(k:Nat):List (List (Int×Int)):=m.statics::(m.classes.map (·.fields)++(m.methods.take k).flatMap fun x=> [x.args,x.locals])
def bO(m:za)(k:Nat):List (List (Int×Int)):=m.statics::(m.classes.take k).map (·.fields)
def gW(m:za):Bool:=Bj m&& rE (JI m m.methods.length) m.classes.length
theorem qi4(m:za):bO m 0=[m.statics]:=by simp[bO]
theorem qi5{m:za}{k:Nat}(h:k<m.classes.length):bO m (k+1)=bO m k++[m.classes[k].fields]:=by
 unfold bO;rw[Xx,Xc h,Wc,List.cons_append];rfl
theorem qka{m:za}{k:Nat}(h:m.classes.length<=k):bO m k=JI m 0:=by
 unfold bO JI;rw[XA h];simp
theorem q5q{m:za}{k:Nat}(h:k<m.methods.length):JI m (k+1)=(JI m k++[m.methods[k].args])++[m.methods[k].locals]:=by
 unfold JI;rw[Xx,Xc h,Wa];simp
theorem qal{m:za}{k:Nat}(h:m.methods.length<=k):JI m k=JI m m.methods.length:=by
 unfold JI
 grind
theorem qk9(m:za)(k:Nat):(bO m k).length<=1+k:=by
 unfold bO
 grind
theorem qak(m:za)(k:Nat):(JI m k).length<=1+m.classes.length+2*k:=by
 unfold JI;rw[XI,Xh,Xm,List.length_flatMap];have:=List.length_take_le k m.methods;have:(List.map (fun x:zl=> [x.args,x.locals].length) (List.take k m.methods)).sum=2*(List.take k m.methods).length:=by
  induction List.take k m.methods with
  |nil=>rfl
  |cons a l ih=>grind
 omega
def Fh(m:za)(w1:World)(ls:List (List (Int×Int)))(v:Value)(wr:World):Prop:=
 ∃vs,mq w1 w1.heap.size ls vs/\wr.ownsRow w1.heap.size 24 1 v vs.length vs
theorem Rs{t:Int×Int}{c:Int}{w:World}{r:Bool}(HR:Hid (Qu t c=r)):Calls Tryz.prog 130 #[zF t.1 t.2,.int .i64 c] w fun e w'=>e= .returned (.bool r)/\Below w.heap.size w w':=by
 have H:=q4i t.1 t.2 c w;rw[show((t.1,t.2):Int×Int)=t from rfl,HR.out]at H;exact H
set_option maxHeartbeats 3200000 in
theorem q5w(m:za)(h:zh)(w:World)(H:zr w w.heap.size h m)(hn:m.classes.length<=1000)(hm:m.methods.length<=1000):
  Calls Tryz.prog 98 #[zv h m] w fun e w'=>e= .returned (.bool (gW m))/\Below w.heap.size w w':=by
 obtain⟨i0,hi,hz0,hz1,hz2⟩:=jJ q86;have HW:=zH (vU (w:=w) (h:=h) (m:=m));have HBX:=zH (qd w h m);have HZ:Hid (w.heap.size<(w.alloc (ze h m)).heap.size):=zH (by simp);have HI:=zH (H.now HW.out);have l3:=H.methods.le;have bz:=H.methods.cap;clear H;go_enter Tryz.func98,Tryz.ntmps98;go_upto_region 1 with fail
 generalize w.alloc (ze h m)=w1 at*
 obtain⟨q0,q1,q2,q3,q4,q5,q6⟩:=HBX.out;go_upto_region 3 with fail
 have HX:=zH (zk (w:=w1) (o:=(.cells ([.slice h.A1 m.statics.length h.c1]:List Value).toArray 24)));have ky:Hid (Fh m w1 (bO m 0) (.slice (some ⟨w1.heap.size,0,none⟩) 1 1) (w1.alloc (.cells ([.slice h.A1 m.statics.length h.c1]:List Value).toArray 24))):=zH ⟨[.slice h.A1 m.statics.length h.c1],by rw[qi4];exact mq.nil.snoc HI.out.statics,qgk _ _ _⟩;clear q0 q1 q2 q3 q4 q5 q6;obtain⟨q0,q1,q2,q3,q4,q5,q6⟩:=HBX.out.keep HX.out HZ.out;go_wp2_with fail
 go_loopw [4,18] (fun v i wr=>∃k:Nat,k<=m.classes.length/\i= .int .i64 k/\Hid (Fh m w1 (bO m k) v wr)/\Hid (Below w1.heap.size w1 wr)) (fun _ i _=>m.classes.length - (intOf i).toNat)
 case atStart=>grind
 case round=>
  clear HX q0 q1 q2 q3 q4 q5 q6 ky;obtain⟨k,hk,rfl,HR,HX⟩:=hrel;obtain⟨q0,q1,q2,q3,q4,q5,q6⟩:=HBX.out.keep HX.out HZ.out;by_cases hlt:k<m.classes.length
  ·obtain⟨ad,e0,hab,hc⟩:=HI.out.classes.row.at_ hlt;have BU:=zH (qi5 hlt);have hll:=qk9 m k;generalize m.classes[k]=c at*
   obtain⟨s0,⟨A1,k1,s1,hs1⟩,⟨A2,k2,s2,hs2⟩,sr⟩:=hc;have hP:(ad.add (k*3)).block<w1.heap.size:=by grind [zC]
   have s0:=(HX.out.cell hP).trans s0;have s1:=(HX.out.cell (p:=zc (ad.add (k*3)) 1) hP).trans s1;have s2:=(HX.out.cell (p:=zc (ad.add (k*3)) 2) hP).trans s2;have oq:=zH hs1;rw[e0];obtain⟨vs,hla,ho⟩:=HR.out;have hvl:vs.length<=1+k:=by rw[hla.1];exact hll
   have Np:=zH hla;have HO:=zH ho;clear hla ho HR e0 hs1 hs2 hP hab hll;go_upto_region 6 with fail
   have HB3:=zH (qr wr [.int .i64 c.sup,.slice A1 c.fields.length k1,.slice A2 c.slots.length k2] 60);have HX:=zH (HX.out.alloc HX.out.size (.cells ([.int .i64 c.sup,.slice A1 c.fields.length k1,.slice A2 c.slots.length k2]:List Value).toArray 60));have qa:Hid ((wr.alloc (.cells ([.int .i64 c.sup,.slice A1 c.fields.length k1,.slice A2 c.slots.length k2]:List Value).toArray 60)).ownsRow w1.heap.size 24 1 u4 vs.length vs):=zH (HO.out.alloc _);have HB3:Hid (zQ (wr.alloc (.cells ([.int .i64 c.sup,.slice A1 c.fields.length k1,.slice A2 c.slots.length k2]:List Value).toArray 60)) wr.heap.size [.int .i64 c.sup,.slice A1 c.fields.length k1,.slice A2 c.slots.length k2]):=HB3;clear q0 q1 q2 q3 q4 q5 q6 s0 s1 s2;generalize wr.alloc (.cells ([.int .i64 c.sup,.slice A1 c.fields.length k1,.slice A2 c.slots.length k2]:List Value).toArray 60)=w3 at*
   generalize wr.heap.size=gb at*
   obtain⟨b0,b1,b2⟩:=qv HB3.out;have F6:=HX.out.size;go_wp2_with(at_builtin;refine Zv rfl _ _ 189 rfl w1.heap.size 24 i0 (.slice none 0 0) 1 24 Tryz.underlying189 hi hz0 hz1 hz2 rfl (by decide) _ vs.length vs rfl (qa.out.alloc _) (some ⟨w3.heap.size,0,none⟩) 1 1 (w3.heap.size+1) [.slice A1 c.fields.length k1] rfl rfl (by grind [V8]) ?c1 (by unfold maxLen;omega) (by omega) ?c2 ?_)
   case c1=>intro u hu;simp at hu;first|(subst hu;rfl)|(rcases hu with rfl|rfl<;>rfl)
   case c2=>simp;omega
   intro v6 w6 hown hgrow;have HX6:=zH (jx ((HX.out.alloc HX.out.size (.cells ([.slice A1 c.fields.length k1]:List Value).toArray 24))) (qa.out.alloc _) (by simp;omega) hgrow);have HO6:=zH hown;clear hown hgrow;go_wp2_with fail
   go_roundw;case rel=>exact⟨k+1,by omega,by go_num,zH ⟨vs++[.slice A1 c.fields.length k1],by rw[BU.out];exact Np.out.snoc oq.out,by rw[Xh];exact HO6.out⟩,HX6⟩
   case measure=>simp[intOf];omega
  ·have HR2:Hid (Fh m w1 (JI m 0) u4 wr):=zH (by rw[<-qka (m:=m) (k:=k) (by omega)];exact HR.out);clear HR;go_wp2_with fail
   go_loopw [4,31] (fun v i wr=>∃k:Nat,k<=m.methods.length/\i= .int .i64 k/\Hid (∀x ∈m.methods.take k,Qu x.ret m.classes.length=true)/\Hid (Fh m w1 (JI m k) v wr)/\Hid (Below w1.heap.size w1 wr)) (fun _ i _=>m.methods.length - (intOf i).toNat)
   case atStart=>exact⟨0,by omega,rfl,zH (by simp),HR2,HX⟩
   case round=>
    clear HX q0 q1 q2 q3 q4 q5 q6 HR2 hlt hk;obtain⟨k,hk,rfl,HN,HR,HX⟩:=hrel;by_cases hlt:k<m.methods.length
    ·obtain⟨ad,e0,hab,hc⟩:=HI.out.methods.row.at_ hlt;have BU:=zH (q5q hlt);have hll:=qak m k;have qz:=zH (fun g:(fun x:zl=>Qu x.ret m.classes.length) m.methods[k]=false=>(JP hlt g:Bj m=false));have HYE:=zH (fun g:(fun x:zl=>Qu x.ret m.classes.length) m.methods[k]=true=>Jk hlt HN.out g);generalize m.methods[k]=x at*
     obtain⟨⟨A0,k0,s0,hs0⟩,⟨A1,k1,s1,hs1⟩,s2,s3,⟨A4,k4,s4,hs4⟩,s5,s6,⟨A7,k7,s7,hs7⟩⟩:=hc;have hP:(ad.add (k*8)).block<w1.heap.size:=by rw[zC];exact hab
     have s0:=(HX.out.cell hP).trans s0;have s1:=(HX.out.cell (p:=zc (ad.add (k*8)) 1) hP).trans s1;have s2:=(HX.out.cell (p:=zc (ad.add (k*8)) 2) hP).trans s2;have s3:=(HX.out.cell (p:=zc (ad.add (k*8)) 3) hP).trans s3;have s4:=(HX.out.cell (p:=zc (ad.add (k*8)) 4) hP).trans s4;have s5:=(HX.out.cell (p:=zc (ad.add (k*8)) 5) hP).trans s5;have s6:=(HX.out.cell (p:=zc (ad.add (k*8)) 6) hP).trans s6;have s7:=(HX.out.cell (p:=zc (ad.add (k*8)) 7) hP).trans s7;have Zg:=zH hs0;have oq:=zH hs1;rw[e0];obtain⟨vs,hla,ho⟩:=HR.out;have hvl:vs.length<=1+m.classes.length+2*k:=by rw[hla.1];exact hll
     have Np:=zH hla;have HO:=zH ho;obtain⟨g,hg⟩:=zj (Qu x.ret m.classes.length);have G:=zH hg;clear hg hla ho HR e0 hs0 hs1 hs4 hs7 hP hab hll;go_upto_region 11 with fail
     have HB3:=zH (qr wr [.slice A0 x.args.length k0,.slice A1 x.locals.length k1,.int .i64 x.ret.1,.int .i64 x.ret.2,.slice A4 x.code.length k4,.int .i64 x.depth,.int .i64 x.pot,.slice A7 x.phi.length k7] 48);have HX:=zH (HX.out.alloc HX.out.size (.cells ([.slice A0 x.args.length k0,.slice A1 x.locals.length k1,.int .i64 x.ret.1,.int .i64 x.ret.2,.slice A4 x.code.length k4,.int .i64 x.depth,.int .i64 x.pot,.slice A7 x.phi.length k7]:List Value).toArray 48));have qa:Hid ((wr.alloc (.cells ([.slice A0 x.args.length k0,.slice A1 x.locals.length k1,.int .i64 x.ret.1,.int .i64 x.ret.2,.slice A4 x.code.length k4,.int .i64 x.depth,.int .i64 x.pot,.slice A7 x.phi.length k7]:List Value).toArray 48)).ownsRow w1.heap.size 24 1 u4 vs.length vs):=zH (HO.out.alloc _);have HB3:Hid (zQ (wr.alloc (.cells ([.slice A0 x.args.length k0,.slice A1 x.locals.length k1,.int .i64 x.ret.1,.int .i64 x.ret.2,.slice A4 x.code.length k4,.int .i64 x.depth,.int .i64 x.pot,.slice A7 x.phi.length k7]:List Value).toArray 48)) wr.heap.size [.slice A0 x.args.length k0,.slice A1 x.locals.length k1,.int .i64 x.ret.1,.int .i64 x.ret.2,.slice A4 x.code.length k4,.int .i64 x.depth,.int .i64 x.pot,.slice A7 x.phi.length k7]):=HB3;have HZ3:Hid (wr.heap.size<(wr.alloc (.cells ([.slice A0 x.args.length k0,.slice A1 x.locals.length k1,.int .i64 x.ret.1,.int .i64 x.ret.2,.slice A4 x.code.length k4,.int .i64 x.depth,.int .i64 x.pot,.slice A7 x.phi.length k7]:List Value).toArray 48)).heap.size):=zH (by simp);clear s0 s1 s2 s3 s4 s5 s6 s7;generalize wr.alloc (.cells ([.slice A0 x.args.length k0,.slice A1 x.locals.length k1,.int .i64 x.ret.1,.int .i64 x.ret.2,.slice A4 x.code.length k4,.int .i64 x.depth,.int .i64 x.pot,.slice A7 x.phi.length k7]:List Value).toArray 48)=w3 at*
     generalize wr.heap.size=gb at*
     obtain⟨b0,b1,b2,b3,b4,b5,b6,b7⟩:=qp HB3.out;cases g
     ·have E2:=zH (show gW m=false by unfold gW;rw[show Bj m=false from qz.out G.out];rfl);go_wp2_with(go_at_call 130;(with_reducible refine(Rs G).mono ?_);rintro e w5 ⟨rfl,hb⟩;have HX:=zi HX hb;have kh:=zH (HB3.out.keep hb HZ3.out);clear hb)
      go_ret;exact⟨by rw[E2.out];rfl,HW.out.trans (HX.out.mono (Xg HZ.out))⟩
     ·have HY:=zH (HYE.out G.out);go_upto_region 13 with(go_at_call 130;(with_reducible refine(Rs G).mono ?_);rintro e w5 ⟨rfl,hb⟩;have HX:=zi HX hb;have kh:=zH (HB3.out.keep hb HZ3.out);have Vk:=kpO qa hb;obtain⟨b0,b1,b2,b3,b4,b5,b6,b7⟩:=qp kh.out;clear hb)
      clear HB3 qa;have qa:=Vk;clear kh;generalize w5=w3 at*
      have F6:=HX.out.size;go_wp2_with(at_builtin;refine Zv rfl _ _ 189 rfl w1.heap.size 24 i0 (.slice none 0 0) 1 24 Tryz.underlying189 hi hz0 hz1 hz2 rfl (by decide) _ vs.length vs rfl (qa.out.alloc _) (some ⟨w3.heap.size,0,none⟩) 2 2 (w3.heap.size+1) [.slice A0 x.args.length k0,.slice A1 x.locals.length k1] rfl rfl (V8 w3 [.slice A0 x.args.length k0,.slice A1 x.locals.length k1] 24) ?c1 (by unfold maxLen;omega) (by omega) ?c2 ?_)
      case c1=>intro u hu;simp at hu;first|(subst hu;rfl)|(rcases hu with rfl|rfl<;>rfl)
      case c2=>simp;omega
      intro v6 w6 hown hgrow;have HX6:=zH (jx ((HX.out.alloc HX.out.size (.cells ([.slice A0 x.args.length k0,.slice A1 x.locals.length k1]:List Value).toArray 24))) (qa.out.alloc _) (by simp;omega) hgrow);have HO6:=zH hown;clear hown hgrow;go_wp2_with fail
      go_roundw;case rel=>exact⟨k+1,by omega,by go_num,HY,zH ⟨vs++[.slice A0 x.args.length k0,.slice A1 x.locals.length k1],by rw[BU.out];have h2:=(Np.out.snoc Zg.out).snoc oq.out;simpa only[XT,List.cons_append,List.nil_append]using h2,by rw[Xh];exact HO6.out⟩,HX6⟩
      case measure=>simp[intOf];omega
    ·have HRA:=zH (show Bj m=true from JQ (l:=m.methods) HN.out (by omega));obtain⟨vs,hla,ho⟩:=HR.out;rw[qal (m:=m) (k:=k) (by omega)]at hla;obtain⟨A9,k9,rfl,GH⟩:=qcr hla HX.out ho;have OH:=zH GH;have E2:=zH (show gW m=rE (JI m m.methods.length) m.classes.length by unfold gW;rw[HRA.out];rfl);clear hla ho GH HR;go_wp2_with(go_at_call 131;(with_reducible refine(q3r _ _ _ _ _ _ (zn _) OH.out).mono ?_);rintro e w5 ⟨rfl,hb⟩;have HX:=zi HX hb;clear hb)
     go_ret;exact⟨by rw[E2.out];rfl,HW.out.trans (HX.out.mono (Xg HZ.out))⟩
