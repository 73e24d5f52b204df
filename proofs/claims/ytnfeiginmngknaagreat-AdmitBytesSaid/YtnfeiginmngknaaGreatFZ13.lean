import Derived.Test.YtnfeiginmngknaaGreatFZ07
namespace Go.Proofs.YtnfeiginmngknaaGreat
set_option maxRecDepth 100000
set_option linter.unusedVariables false
set_option linter.unusedSimpArgs false
open Go.ChangeShapes Go.WideShapes Go.ChangeAt Go.RowKit
def ZB(m:za)(c:Int)(ab:List Int)(k:Nat)(s:Int):Bool:=
 match m.methods[s.toNat]? with
 |none=>false
 |some f=>match f.args with
  | []=>false
  |t::r=>zB (zy m.classes) 3 c t.1 t.2&& (match ab[k]? with
    |none=>true
    |some q=>match m.methods[q.toNat]? with
     |none=>true
     |some g=>decide (r=g.args.drop 1)&& decide (f.ret=g.ret))
def Yp(m:za)(c:Int)(ab:List Int):Nat->List Int->Bool
 |_,[]=>true
 |k,s::r=>ZB m c ab k s&& Yp m c ab (k+1) r
def Zw(m:za)(x:zW):List Int:=if 0<=x.sup then(match m.classes[x.sup.toNat]? with
 |some y=>y.slots
 |none=> [])else []
def jG(m:za)(c:Int)(x:zW):Bool:=
 decide (x.sup<c)&& (vC x.fields m.classes.length&& (decide ((qg m.classes c).length<=8)&& (decide ((Zw m x).length<=x.slots.length)&& Yp m c (Zw m x) 0 x.slots)))
abbrev clsL(A1 A2:Option Addr)(k1 k2:Nat)(x:zW):List Value:=[.int .i64 x.sup,.slice A1 x.fields.length k1,.slice A2 x.slots.length k2]
theorem Rv{m:za}{c:Int}{ab l:List Int}{k:Nat}(hk:k<l.length):Yp m c ab k (l.drop k)=(ZB m c ab k l[k]&& Yp m c ab (k+1) (l.drop (k+1))):=by
 rw[Wq hk];rfl
theorem yS{l m:List (Int×Int)}{A A':Option Addr}{cap cap' n n':Nat}{w0 w:World}{r:Bool}(HL:Hid (zd zf 2 w0 w0.heap.size A cap l))(HM:Hid (zd zf 2 w0 w0.heap.size A' cap' m))(HX:Hid (Below w0.heap.size w0 w))(HN:Hid (l.length=n))(Db:Hid (m.length=n'))(HR:Hid (decide (l=m)=r)):
  Calls Tryz.prog 28 #[.slice A n cap,.slice A' n' cap'] w fun e w'=>e= .returned (.bool r)/\Below w.heap.size w w':=by
 obtain rfl:=HN.out;obtain rfl:=Db.out;have h:=Ii l m A A' cap cap' w0.heap.size w HX.out.size (HL.out.below_to zf.keeps HX.out (zn _)) (HM.out.below_to zf.keeps HX.out (zn _));rw[HR.out]at h;exact h
theorem uR{w:World}{B:Nat}{ad:Addr}{l:List (Int×Int)}(h:zd zf 2 w B (some ad) 1 l)(h0:0<l.length):zd zf 2 w B (some ad) 0 (l.drop 1):=by
 have:=h.le;rw[Wm (by omega)];exact⟨zn _,by omega,qD.nil⟩
theorem ww{w:World}{B cap:Nat}{ad:Addr}{l:List (Int×Int)}(h:zd zf 2 w B (some ad) cap l)(h0:0<l.length):zd zf 2 w B (some ⟨ad.block,ad.off+2,none⟩) (cap - 1) (l.drop 1):=by
 have:=h.le;have:=h.cap;refine⟨by grind,by omega,fun i x hi=> ?_⟩;rw[List.getElem?_drop]at hi;obtain⟨ad',e,hb,ht⟩:=h.row (1+i) x hi;injection e with e;subst e;refine⟨_,rfl,hb,?_⟩;have e2:(Addr.add ⟨ad.block,ad.off+2,none⟩ (i*2))=ad.add ((1+i)*2):=by
  have e3:(⟨ad.block,ad.off+2,none⟩:Addr)=ad.add 2:=by unfold Addr.add;simp
  grind [uK]
 grind
theorem q0k{m:za}{h:zh}{c t0 t1:Int}{w0 w:World}{r:Bool}(HI:Hid (zr w0 w0.heap.size h m))(HX:Hid (Below w0.heap.size w0 w))(HN:Hid (m.classes.length<=1000))(HR:Hid (zB (zy m.classes) 3 c t0 t1=r)):
  Calls Tryz.prog 91 #[.slice h.A0 m.classes.length h.c0,zF 3 c,zF t0 t1] w fun e w'=>e= .returned (.bool r)/\Below w.heap.size w w':=by
 have H:=gT (zy m.classes) 3 c t0 t1 h.A0 h.c0 w.heap.size w (by rw[kE];have:=HN.out;omega) (zn _) (eB (HI.out.now HX.out).classes.row);rw[HR.out,kE]at H;exact H
theorem qfy{m:za}{c:Int}{ab:List Int}{k n:Nat}{f:zl}(h:m.methods[n]? =some f)(hf:f.args=[]):ZB m c ab k (n:Int)=false:=by
 unfold ZB
 grind
theorem qfx{m:za}{c:Int}{ab:List Int}{k n:Nat}(h:m.methods.length<=n):ZB m c ab k (n:Int)=false:=by
 unfold ZB
 grind
theorem qfw{m:za}{c:Int}{ab:List Int}{k n:Nat}{f:zl}{t:Int×Int}{r:List (Int×Int)}(h:m.methods[n]? =some f)(hf:f.args=t::r)(hs:zB (zy m.classes) 3 c t.1 t.2=false):ZB m c ab k (n:Int)=false:=by
 unfold ZB
 grind
theorem Te{m:za}{c:Int}{ab:List Int}{k n:Nat}{f:zl}{t:Int×Int}{r:List (Int×Int)}(h:m.methods[n]? =some f)(hf:f.args=t::r)(hs:zB (zy m.classes) 3 c t.1 t.2=true)(hk:ab.length<=k):ZB m c ab k (n:Int)=true:=by
 unfold ZB
 grind
theorem Rw{m:za}{c:Int}{ab:List Int}{k n q:Nat}{f g:zl}{t:Int×Int}{r:List (Int×Int)}(h:m.methods[n]? =some f)(hf:f.args=t::r)(hs:zB (zy m.classes) 3 c t.1 t.2=true)(hk:ab[k]? =some (q:Int))(hq:m.methods[q]? =some g):
  ZB m c ab k (n:Int)=(decide (r=g.args.drop 1)&& decide (f.ret=g.ret)):=by
 unfold ZB;simp_all
theorem q43{P:Prop}(h:P:=by
 refine mT 0 (h:=mT 1 (h:=mT 2 (h:=mT 3 (h:=mT 4 (h:=mT 5 (h:= ?_))))));refine wpAnyH_ready (rs:=[6]) (by kernel_rfl) (by simp) ?_;refine AllReadyH.cons (o:=_) rfl (fun K hK=> ?_) AllReadyH.nil;go_simp;(go_at_call 28;(with_reducible refine(yS dK YE qf JD YM D5).mono ?_);rintro e w5 ⟨rfl,hb⟩;have HX:=zi qf hb;have vG:=zi Hz hb;have iQ:w5.cell? ⟨gf,0,none⟩=some vf:=(by rw[dS];exact(je.out.keep vG.out bI.out) 0 _ rfl);have hb2:=(je.out.keep vG.out bI.out) 2 _ rfl;have hb3:=(je.out.keep vG.out bI.out) 3 _ rfl;have iO:w5.cell? ⟨gg,0,none⟩=some vg:=(by rw[dQ];exact(qR.out.keep vG.out aT.out) 0 _ rfl);have hg2:=(qR.out.keep vG.out aT.out) 2 _ rfl;have hg3:=(qR.out.keep vG.out aT.out) 3 _ rfl;clear hb)
 refine hK.out _ _ ⟨iQ,hb2,hb3,iO,hg2,hg3⟩ (fun hHeld=> ?_);clear hK K;try simp only[sA,sB,sC,Act.put,sD,sE,sF]
 refine mT 7 (h:=mT 8 (h:=mU 9 (h:=mU 10 (h:=mU 11 (h:=mU 12 (h:=mU 13 (h:=mT 14 (h:= ?_))))))));refine wpAnyH_done (by kernel_rfl) ?_ _;refine NoPanic.normal ?_;go_wp2_with fail
 go_ret;exact⟨by rw[E2.out];rfl,HW.out.trans (HX.out.mono Zp.out)⟩):P:=h
theorem Dj{P:Prop}(h:P:=by
 go_wp2_with(first|(go_at_call 49;(with_reducible refine(pY HI VY HX D1).mono ?_);rintro e w5 ⟨rfl,hb⟩;have HX:=zi HX hb;obtain⟨jN,vj,vn,jB,vm,vk,vo⟩:=ck7 (HQ.out.keep HX.out kM.out);obtain⟨JG,JH,Qb⟩:=qv (HC.out.keep HX.out ay.out);clear hb)|(go_at_call 41;(with_reducible refine(Dv HI HX HN HF HL).mono ?_);rintro e w5 ⟨A9,k9,rfl,hb⟩;have HX:=zi HX hb;obtain⟨jN,vj,vn,jB,vm,vk,vo⟩:=ck7 (HQ.out.keep HX.out kM.out);obtain⟨JG,JH,Qb⟩:=qv (HC.out.keep HX.out ay.out);clear hb))
 go_ret;exact⟨by rw[E2.out];rfl,HW.out.trans (HX.out.mono Zp.out)⟩):P:=h
theorem q42{P:Prop}(h:P:=by
 have E2:=zH (show jG m (i:Int) x=false by unfold jG;rw[qY.out,HKK.out,SL.out];simp);go_region_held3 (fun w'=>w'.cell? ⟨w.heap.size,0,none⟩=some (.slice h.A0 m.classes.length h.c0)/\w'.cell? ⟨gf,0,none⟩=some (.slice (some kH) fa.length j0)/\w'.cell? kH=some (.int .i64 t0)/\w'.cell? (zc kH 1)=some (.int .i64 t1)) (first|exact⟨jN,hb0,r0,r1⟩) (first|(go_at_call 91;(with_reducible refine(q0k HI qf HN D4).mono ?_);rintro e w3 ⟨rfl,hb⟩;have HX:=zi qf hb;have BR:=zi q1f hb;obtain⟨jN,vj,vn,jB,vm,vk,vo⟩:=ck7 (HQ.out.keep HX.out kM.out);obtain⟨JG,JH,Qb⟩:=qv (HC.out.keep HX.out ay.out);have hb0:=(je.out.keep BR.out Yc.out) 0 _ rfl;obtain⟨r0,r1⟩:=HR2.out _ HX.out;clear hb))
 go_wp2_with fail
 go_ret;exact⟨by rw[E2.out];rfl,HW.out.trans (HX.out.mono Zp.out)⟩):P:=h
theorem Iq{P:Prop}(h:P:=by
 go_wp2_with fail
 go_ret;exact⟨by rw[E2.out];rfl,HW.out.trans (HX.out.mono Zp.out)⟩):P:=h
theorem Pz{P:Prop}(h:P:=by
 go_wp2_with fail
 go_roundw;case rel=>exact⟨k+1,by omega,by go_num,yo,HX⟩
 case measure=>simp[intOf];omega):P:=h
theorem q41{P:Prop}(h:P:=by
 have E2:=zH (show jG m (i:Int) x=false by unfold jG;rw[qY.out,HKK.out,SL.out];simp);have ht0:((fa.length:Int)==0)=true:=XX.mpr (by omega);clear sO;go_quiet (fail)
 go_wp2_with fail
 go_ret;exact⟨by rw[E2.out];rfl,HW.out.trans ((jf HX.out _).mono Zp.out)⟩):P:=h
theorem Di{P:Prop}(h:P:=by
 cases d5
 ·have SL:=zH (uf.out.trans (by rw[D5.out]<;>rfl));have E2:=zH (show jG m (i:Int) x=false by unfold jG;rw[qY.out,HKK.out,SL.out];simp);refine wp_region_noPanic ?_;refine wp_region_held_drew (S:=(fun w'=>w'.cell? ⟨gf,0,none⟩=some vf/\w'.cell? ⟨gf,2,none⟩=some (.int .i64 qi)/\w'.cell? ⟨gf,3,none⟩=some (.int .i64 qB)/\w'.cell? ⟨gg,0,none⟩=some vg/\w'.cell? ⟨gg,2,none⟩=some (.int .i64 jY)/\w'.cell? ⟨gg,3,none⟩=some (.int .i64 jW))) (by kernel_rfl) ⟨iQ,hb2,hb3,iO,hg2,hg3⟩ (fun hHeld=> ?_);exact q43
 ·by_cases hret:qi=jY/\qB=jW
  ·obtain⟨rfl,rfl⟩:=hret;have SL:=zH (uf.out.trans (by rw[D5.out,Xi (rfl:(qi,qB)=(qi,qB))]<;>rfl));have yo:=zH (HKK.out.trans (by rw[SL.out,Bool.true_and]));go_region_held3 (fun w'=>w'.cell? ⟨gf,0,none⟩=some vf/\w'.cell? ⟨gf,2,none⟩=some (.int .i64 qi)/\w'.cell? ⟨gf,3,none⟩=some (.int .i64 qB)/\w'.cell? ⟨gg,0,none⟩=some vg/\w'.cell? ⟨gg,2,none⟩=some (.int .i64 qi)/\w'.cell? ⟨gg,3,none⟩=some (.int .i64 qB)) (first|exact⟨iQ,hb2,hb3,iO,hg2,hg3⟩) (first|(go_at_call 28;(with_reducible refine(yS dK YE qf JD YM D5).mono ?_);rintro e w5 ⟨rfl,hb⟩;have HX:=zi qf hb;have vG:=zi Hz hb;have iQ:w5.cell? ⟨gf,0,none⟩=some vf:=(by rw[dS];exact(je.out.keep vG.out bI.out) 0 _ rfl);have hb2:=(je.out.keep vG.out bI.out) 2 _ rfl;have hb3:=(je.out.keep vG.out bI.out) 3 _ rfl;have iO:w5.cell? ⟨gg,0,none⟩=some vg:=(by rw[dQ];exact(qR.out.keep vG.out aT.out) 0 _ rfl);have hg2:=(qR.out.keep vG.out aT.out) 2 _ rfl;have hg3:=(qR.out.keep vG.out aT.out) 3 _ rfl;clear hb))
   exact Pz
  ·have SL:=zH (uf.out.trans (by rw[D5.out,Xf (show ¬(qi,qB)=(jY,jW)by simpa using hret)]<;>rfl));have E2:=zH (show jG m (i:Int) x=false by unfold jG;rw[qY.out,HKK.out,SL.out];simp);have qE:¬qi=jY\/(qi=jY/\¬qB=jW):=by omega
   clear hret;rcases qE with qE|⟨rfl,qE⟩
   ·go_region_held3 (fun w'=>w'.cell? ⟨gf,0,none⟩=some vf/\w'.cell? ⟨gf,2,none⟩=some (.int .i64 qi)/\w'.cell? ⟨gf,3,none⟩=some (.int .i64 qB)/\w'.cell? ⟨gg,0,none⟩=some vg/\w'.cell? ⟨gg,2,none⟩=some (.int .i64 jY)/\w'.cell? ⟨gg,3,none⟩=some (.int .i64 jW)) (first|exact⟨iQ,hb2,hb3,iO,hg2,hg3⟩) (first|(go_at_call 28;(with_reducible refine(yS dK YE qf JD YM D5).mono ?_);rintro e w5 ⟨rfl,hb⟩;have HX:=zi qf hb;have vG:=zi Hz hb;have iQ:w5.cell? ⟨gf,0,none⟩=some vf:=(by rw[dS];exact(je.out.keep vG.out bI.out) 0 _ rfl);have hb2:=(je.out.keep vG.out bI.out) 2 _ rfl;have hb3:=(je.out.keep vG.out bI.out) 3 _ rfl;have iO:w5.cell? ⟨gg,0,none⟩=some vg:=(by rw[dQ];exact(qR.out.keep vG.out aT.out) 0 _ rfl);have hg2:=(qR.out.keep vG.out aT.out) 2 _ rfl;have hg3:=(qR.out.keep vG.out aT.out) 3 _ rfl;clear hb))
    exact Iq
   ·go_region_held3 (fun w'=>w'.cell? ⟨gf,0,none⟩=some vf/\w'.cell? ⟨gf,2,none⟩=some (.int .i64 qi)/\w'.cell? ⟨gf,3,none⟩=some (.int .i64 qB)/\w'.cell? ⟨gg,0,none⟩=some vg/\w'.cell? ⟨gg,2,none⟩=some (.int .i64 qi)/\w'.cell? ⟨gg,3,none⟩=some (.int .i64 jW)) (first|exact⟨iQ,hb2,hb3,iO,hg2,hg3⟩) (first|(go_at_call 28;(with_reducible refine(yS dK YE qf JD YM D5).mono ?_);rintro e w5 ⟨rfl,hb⟩;have HX:=zi qf hb;have vG:=zi Hz hb;have iQ:w5.cell? ⟨gf,0,none⟩=some vf:=(by rw[dS];exact(je.out.keep vG.out bI.out) 0 _ rfl);have hb2:=(je.out.keep vG.out bI.out) 2 _ rfl;have hb3:=(je.out.keep vG.out bI.out) 3 _ rfl;have iO:w5.cell? ⟨gg,0,none⟩=some vg:=(by rw[dQ];exact(qR.out.keep vG.out aT.out) 0 _ rfl);have hg2:=(qR.out.keep vG.out aT.out) 2 _ rfl;have hg3:=(qR.out.keep vG.out aT.out) 3 _ rfl;clear hb))
    exact Iq):P:=h
set_option maxHeartbeats 6400000 in
theorem q6y(m:za)(x:zW)(i:Nat)(h:zh)(w:World)(H:zr w w.heap.size h m)(ht:aO m)(hx:m.classes[i]? =some x)(hs:∀y ∈m.classes,∀s ∈y.slots,0<=s)
  (hq:x.sup<(i:Int)->∀q ∈Zw m x,∃g,m.methods[q.toNat]? =some g/\0<g.args.length):
  Calls Tryz.prog 50 #[zv h m,.int .i64 (i:Int)] w fun e w'=>e= .returned (.bool (jG m (i:Int) x))/\Below w.heap.size w w':=by
 obtain⟨hil,hxe⟩:=Xv.mp hx;obtain⟨ad,dF,hab,hcl⟩:=H.classes.row i x hx;obtain⟨s0,⟨A1,k1,s1,hs1⟩,⟨A2,k2,s2,hs2⟩⟩:=hcl;obtain⟨hq0,hp0,hb,hz⟩:=Dy w (kF h m) (clsL A1 A2 k1 k2 x) 29 60;have HQ:=zH hq0;have HC:=zH hp0;have HW:=zH hb;have HI:=zH (H.now hb);have VY:=zH ((hs1.below_to zf.keeps hb (zn _)).keep' zf.keeps hb.size (fun _ _=>rfl));have az:=zH ((hs2.below_to zu.keeps hb (zn _)).keep' zu.keeps hb.size (fun _ _=>rfl));have HT:=zH ht;have QT:=zH (Xr hx);have HN:=zH ht.n;have HF:=zH ht.f;have aY:=zH hs;have yz:=zH hq;have Ca:=zH dF;have hw0:Below w.heap.size w (w.alloc (.cells (kF h m).toArray 29)):=(zb _ _).alloc (zn _) _;have r0:=(hw0.cell (p:=ad.add (i*3)) (by rw[zC];exact hab)).trans s0;have r1:=(hw0.cell (p:=zc (ad.add (i*3)) 1) (by show(ad.add _).block<_;rw[zC];exact hab)).trans s1;have r2:=(hw0.cell (p:=zc (ad.add (i*3)) 2) (by show(ad.add _).block<_;rw[zC];exact hab)).trans s2;have b0:(w.alloc (.cells (kF h m).toArray 29)).cell? ⟨w.heap.size,0,none⟩=some (.slice (some ad) m.classes.length h.c0):=by rw[<-dF];exact qr w (kF h m) 29 0 _ rfl
 have kM:Hid (w.heap.size<((w.alloc (.cells (kF h m).toArray 29)).alloc (.cells (clsL A1 A2 k1 k2 x).toArray 60)).heap.size):=zH (by omega);have ay:Hid (w.heap.size+1<((w.alloc (.cells (kF h m).toArray 29)).alloc (.cells (clsL A1 A2 k1 k2 x).toArray 60)).heap.size):=zH (by omega);have Zp:Hid (w.heap.size<=((w.alloc (.cells (kF h m).toArray 29)).alloc (.cells (clsL A1 A2 k1 k2 x).toArray 60)).heap.size):=zH (by omega);have l0:=H.classes.le;have BF:=H.classes.cap;have l3:=H.methods.le;have bz:=H.methods.cap;have l5:=hs2.le;have l5c:=hs2.cap;obtain⟨L,hL⟩:∃L,qg m.classes (i:Int)=L:=⟨_,rfl⟩
 have HL:=zH hL;obtain⟨d1,hd1⟩:∃d,vC x.fields m.classes.length=d:=⟨_,rfl⟩
 have D1:=zH hd1;obtain⟨AB,Vh⟩:∃AB,Zw m x=AB:=⟨_,rfl⟩
 have qY:=zH Vh;clear hq0 hp0 hb hz H ht hx hxe hs hq hs1 hs2 s0 s1 s2 hab hw0 hL hd1 Vh dF;go_enter Tryz.func50,Tryz.ntmps50;go_upto_region 1 with fail
 have hz0:(w.alloc (.cells (kF h m).toArray 29)).heap.size=w.heap.size+1:=by simp
 have HZ0:=zH hz0;clear hz0;generalize w.alloc (.cells (kF h m).toArray 29)=w0 at*
 go_upto_region 2 with fail
 clear r0 r1 r2 b0;rw[HZ0.out];generalize w0.alloc (.cells (clsL A1 A2 k1 k2 x).toArray 60)=w1 at*
 have HX:Hid (Below w1.heap.size w1 w1):=zH (zb _ _);obtain⟨jN,vj,vn,jB,vm,vk,vo⟩:=ck7 (HQ.out.keep HX.out kM.out);obtain⟨JG,JH,Qb⟩:=qv (HC.out.keep HX.out ay.out);have hc0:0<=(i:Int):=by omega
 by_cases c1:x.sup<(i:Int)
 rotate_left
 ·have Hq:(i:Int)<=x.sup:=by omega
  have E2:=zH (show jG m (i:Int) x=false by unfold jG;rw[Xf c1];rfl);exact Dj
 cases d1
 ·have E2:=zH (show jG m (i:Int) x=false by unfold jG;rw[Xi c1,D1.out];rfl);exact Dj
 by_cases c2:L.length<=8;rotate_left
 ·have Cw:(8:Int)<(L.length:Int):=by omega
  have E2:=zH (show jG m (i:Int) x=false by unfold jG;rw[HL.out,Xf c2];simp);exact Dj
 have Cw:¬(8:Int)<(L.length:Int):=by omega
 go_upto_region 5 with(first|(go_at_call 49;(with_reducible refine(pY HI VY HX D1).mono ?_);rintro e w5 ⟨rfl,hb⟩;have HX:=zi HX hb;obtain⟨jN,vj,vn,jB,vm,vk,vo⟩:=ck7 (HQ.out.keep HX.out kM.out);obtain⟨JG,JH,Qb⟩:=qv (HC.out.keep HX.out ay.out);clear hb)|(go_at_call 41;(with_reducible refine(Dv HI HX HN HF HL).mono ?_);rintro e w5 ⟨A9,k9,rfl,hb⟩;have HX:=zi HX hb;obtain⟨jN,vj,vn,jB,vm,vk,vo⟩:=ck7 (HQ.out.keep HX.out kM.out);obtain⟨JG,JH,Qb⟩:=qv (HC.out.keep HX.out ay.out);clear hb))
 have HX:=zH (HX.out.alloc HX.out.size (.cells #[] 3));generalize w5.alloc (.cells #[] 3)=w6 at*
 clear jN vj vn jB vm vk vo JG JH Qb;obtain⟨jN,vj,vn,jB,vm,vk,vo⟩:=ck7 (HQ.out.keep HX.out kM.out);obtain⟨JG,JH,Qb⟩:=qv (HC.out.keep HX.out ay.out);go_upto_if 36 with fail
 go_cut [6]from 36 to 43 (fun s wx=>∃A c,s= .slice A AB.length c/\Hid (zd zu 1 w1 w1.heap.size A c AB)/\Hid (∀q ∈AB,0<=q)/\wx=w6)
 case first=>
  by_cases hs0:0<=x.sup
  ·have xS:x.sup.toNat<m.classes.length:=by omega
   obtain⟨xO,e0,Gz,hcy⟩:=HI.out.classes.row.at_ xS;have iU:=zH (show Zw m x=m.classes[x.sup.toNat].slots by unfold Zw;rw[Xb hs0,Xc xS]);have HYM:=zH (Xd xS);generalize m.classes[x.sup.toNat]=y at*
   obtain⟨_,_,⟨ML,NA,sy,hsy⟩⟩:=hcy;obtain rfl:AB=y.slots:=qY.out.symm.trans iU.out;have BI:=zH hsy;have ly:=hsy.le;have lyc:=hsy.cap;have sy:=(HX.out.cell (p:=zc (xO.add (x.sup.toNat*3)) 2) (by show(xO.add _).block<_;rw[zC];exact Gz)).trans sy;rw[e0]at jN;have hnyi:x.sup<m.classes.length:=by omega
   have hny0:¬x.sup<0:=by omega
   clear e0 Gz;go_wp2_with fail
   go_meet
   exact⟨_,_,rfl,BI,zH (fun q hq=>aY.out y HYM.out q hq),rfl⟩
  ·have hs1:x.sup<0:=by omega
   have iU:=zH (show Zw m x=[]from Xa hs0);obtain rfl:AB=[]:=qY.out.symm.trans iU.out;go_wp2_with fail
   go_meet
   exact⟨_,_,rfl,zH ⟨Xn _,by omega,qD.nil⟩,zH (fun q hq=>by cases hq),rfl⟩
 case rest=>
  obtain⟨ML,NA,rfl,BI,Ca,rfl⟩:=hcut;have ly:=BI.out.le;have lyc:=BI.out.cap;by_cases c3:AB.length<=x.slots.length;rotate_left
  ·have nR:(x.slots.length:Int)<(AB.length:Int):=by omega
   have E2:=zH (show jG m (i:Int) x=false by unfold jG;rw[qY.out,Xf c3];simp);exact Dj
  have nR:¬(x.slots.length:Int)<(AB.length:Int):=by omega
  go_wp2_with(first|(go_at_call 49;(with_reducible refine(pY HI VY HX D1).mono ?_);rintro e w5 ⟨rfl,hb⟩;have HX:=zi HX hb;obtain⟨jN,vj,vn,jB,vm,vk,vo⟩:=ck7 (HQ.out.keep HX.out kM.out);obtain⟨JG,JH,Qb⟩:=qv (HC.out.keep HX.out ay.out);clear hb)|(go_at_call 41;(with_reducible refine(Dv HI HX HN HF HL).mono ?_);rintro e w5 ⟨A9,k9,rfl,hb⟩;have HX:=zi HX hb;obtain⟨jN,vj,vn,jB,vm,vk,vo⟩:=ck7 (HQ.out.keep HX.out kM.out);obtain⟨JG,JH,Qb⟩:=qv (HC.out.keep HX.out ay.out);clear hb))
  go_loopw [7] (fun i' wr=>∃k:Nat,k<=x.slots.length/\i'= .int .i64 k/\Hid (Yp m (i:Int) AB 0 x.slots=Yp m (i:Int) AB k (x.slots.drop k))/\Hid (Below w1.heap.size w1 wr)) (fun i' _=>x.slots.length - (intOf i').toNat)
  case atStart=>exact⟨0,by omega,rfl,zH rfl,HX⟩
  case round=>
   clear HX jN vj vn jB vm vk vo JG JH Qb;obtain⟨k,hk,rfl,HK,HX⟩:=hrel;obtain⟨jN,vj,vn,jB,vm,vk,vo⟩:=ck7 (HQ.out.keep HX.out kM.out);obtain⟨JG,JH,Qb⟩:=qv (HC.out.keep HX.out ay.out);by_cases hlt:k<x.slots.length
   ·obtain⟨xg,e2,BA,hcs⟩:=az.out.row.at_ hlt;have HKK:=zH (HK.out.trans (Rv hlt));have hs0:=aY.out x QT.out x.slots[k] (Xd hlt);have HE2:=zH e2;rw[e2]at Qb;rw[Xq]at hcs;have HCS:Hid (w1.cell? (xg.add k)=some (.int .i64 x.slots[k])):=zH hcs;have ou:Hid ((xg.add k).block<w1.heap.size):=zH (by rw[zC];exact BA);generalize x.slots[k]=s at*
    obtain⟨n,rfl⟩:=Xj hs0;have ks:=(HX.out.cell ou.out).trans HCS.out;clear e2 hcs BA hs0;by_cases hnl:n<m.methods.length
    ·obtain⟨zE,e3,j6,hcm⟩:=HI.out.methods.row.at_ hnl;have bA:=zH (Xc hnl);generalize m.methods[n]=f at*
     obtain⟨fa,fl,⟨qi,qB⟩,fc,fd,fp,fh⟩:=f;obtain⟨⟨Vn,j0,f0,hf0⟩,⟨bg,j1,f1,_⟩,f2,f3,⟨bB,j4,f4,_⟩,f5,f6,⟨bH,j7,f7,_⟩⟩:=hcm;dsimp only at f0 f1 f2 f3 f4 f5 f6 f7 hf0;have Yd:(zE.add (n*8)).block<w1.heap.size:=by rw[zC];exact j6
     have dE:=zH hf0;have hj0:=hf0.le;have Nl:=hf0.cap;go_upto_region 12 with fail
     rw[e3]at jB;go_quiet (fail)
     go_upto_region 14 with fail
     have HX:=zH (jf HX.out nq);generalize wr.drewN nq=wd at*
     clear jN vj vn jB vm vk vo JG JH Qb ks;obtain⟨jN,vj,vn,jB,vm,vk,vo⟩:=ck7 (HQ.out.keep HX.out kM.out);obtain⟨JG,JH,Qb⟩:=qv (HC.out.keep HX.out ay.out);rw[e3]at jB;rw[HE2.out]at Qb;have ks:=(HX.out.cell ou.out).trans HCS.out;have f0:=(HX.out.cell Yd).trans f0;have f1:=(HX.out.cell (p:=zc (zE.add (n*8)) 1) Yd).trans f1;have f2:=(HX.out.cell (p:=zc (zE.add (n*8)) 2) Yd).trans f2;have f3:=(HX.out.cell (p:=zc (zE.add (n*8)) 3) Yd).trans f3;have f4:=(HX.out.cell (p:=zc (zE.add (n*8)) 4) Yd).trans f4;have f5:=(HX.out.cell (p:=zc (zE.add (n*8)) 5) Yd).trans f5;have f6:=(HX.out.cell (p:=zc (zE.add (n*8)) 6) Yd).trans f6;have f7:=(HX.out.cell (p:=zc (zE.add (n*8)) 7) Yd).trans f7;have e1:=World.new_ne wd _ jB;have e2:=World.new_ne wd _ Qb;have e4:=World.new_ne wd _ ks;have e5:=World.new_ne wd _ f0;clear e3;go_region_held3 (fun w'=>w'.cell? ⟨w.heap.size,3,none⟩=some (.slice (some zE) m.methods.length h.c3)/\w'.cell? ⟨w.heap.size+1,2,none⟩=some (.slice (some xg) x.slots.length k2)/\w'.cell? (xg.add k)=some (.int .i64 (n:Int))/\w'.cell? (zE.add (n*8))=some (.slice Vn fa.length j0)/\w'.cell? (zc (zE.add (n*8)) 1)=some (.slice bg fl.length j1)/\w'.cell? (zc (zE.add (n*8)) 2)=some (.int .i64 qi)/\w'.cell? (zc (zE.add (n*8)) 3)=some (.int .i64 qB)/\w'.cell? (zc (zE.add (n*8)) 4)=some (.slice bB fc.length j4)/\w'.cell? (zc (zE.add (n*8)) 5)=some (.int .i64 fd)/\w'.cell? (zc (zE.add (n*8)) 6)=some (.int .i64 fp)/\w'.cell? (zc (zE.add (n*8)) 7)=some (.slice bH fh.length j7)) (go_keep) (first|fail)
     go_upto_region 15 with fail
     have je:=zH (qr wd [.slice Vn fa.length j0,.slice bg fl.length j1,.int .i64 qi,.int .i64 qB,.slice bB fc.length j4,.int .i64 fd,.int .i64 fp,.slice bH fh.length j7] 48);have HX:=zH (HX.out.alloc HX.out.size (.cells ([.slice Vn fa.length j0,.slice bg fl.length j1,.int .i64 qi,.int .i64 qB,.slice bB fc.length j4,.int .i64 fd,.int .i64 fp,.slice bH fh.length j7]:List Value).toArray 48)).drew;clear jN vj vn jB vm vk vo JG JH Qb ks f0 f1 f2 f3 f4 f5 f6 f7 e1 e2 e4 e5;have je:Hid (zQ (wd.alloc (.cells ([.slice Vn fa.length j0,.slice bg fl.length j1,.int .i64 qi,.int .i64 qB,.slice bB fc.length j4,.int .i64 fd,.int .i64 fp,.slice bH fh.length j7]:List Value).toArray 48)).drew wd.heap.size [.slice Vn fa.length j0,.slice bg fl.length j1,.int .i64 qi,.int .i64 qB,.slice bB fc.length j4,.int .i64 fd,.int .i64 fp,.slice bH fh.length j7]):=je;generalize(wd.alloc (.cells ([.slice Vn fa.length j0,.slice bg fl.length j1,.int .i64 qi,.int .i64 qB,.slice bB fc.length j4,.int .i64 fd,.int .i64 fp,.slice bH fh.length j7]:List Value).toArray 48)).drew=w2 at*
     generalize wd.heap.size=gf at*
     have Yc:Hid (gf<w2.heap.size):=zH (World.block_lt_of_cell? w2 _ (je.out 0 _ rfl));obtain⟨jN,vj,vn,jB,vm,vk,vo⟩:=ck7 (HQ.out.keep HX.out kM.out);obtain⟨JG,JH,Qb⟩:=qv (HC.out.keep HX.out ay.out);have hb0:=je.out 0 _ rfl;by_cases sO:fa.length=0
     ·have SL:=zH (qfy (c:=(i:Int)) (ab:=AB) (k:=k) bA.out (Wp sO));exact q41
     ·have hfp:0<fa.length:=by omega
      have ht0:((fa.length:Int)==0)=false:=XG.mpr (by omega);have Bu:=zH (show fa=fa[0]::fa.drop 1 from Wq hfp);obtain⟨kH,rfl,CU,r0,r1⟩:=dE.out.row.at_ hfp;clear sO;generalize fa[0]=t at*
      obtain⟨t0,t1⟩:=t;rw[Nat.zero_mul,show kH.add 0=kH by simp[Addr.add]]at r0 r1;have HR2:Hid (∀W,Below w1.heap.size w1 W->W.cell? kH=some (.int .i64 t0)/\W.cell? (zc kH 1)=some (.int .i64 t1)):=zH (fun W hW=>zf.keeps (x:=(t0,t1)) ⟨r0,r1⟩ CU (zn _) (fun _ hq=>hW.cell hq));obtain⟨r0,r1⟩:=HR2.out _ HX.out;have qf:=zH HX.out.drew;have q1f:Hid (Below w2.heap.size w2 w2.drew):=zH (zb _ _).drew;obtain⟨d4,hd4⟩:∃d,zB (zy m.classes) 3 (i:Int) t0 t1=d:=⟨_,rfl⟩
      have D4:=zH hd4;clear hd4 CU;cases d4
      ·have SL:=zH (qfw (c:=(i:Int)) (ab:=AB) (k:=k) bA.out Bu.out D4.out);exact q42
      ·go_region_held3 (fun w'=>w'.cell? ⟨w.heap.size,0,none⟩=some (.slice h.A0 m.classes.length h.c0)/\w'.cell? ⟨gf,0,none⟩=some (.slice (some kH) fa.length j0)/\w'.cell? kH=some (.int .i64 t0)/\w'.cell? (zc kH 1)=some (.int .i64 t1)) (first|exact⟨jN,hb0,r0,r1⟩) (first|(go_at_call 91;(with_reducible refine(q0k HI qf HN D4).mono ?_);rintro e w3 ⟨rfl,hb⟩;have HX:=zi qf hb;have BR:=zi q1f hb;obtain⟨jN,vj,vn,jB,vm,vk,vo⟩:=ck7 (HQ.out.keep HX.out kM.out);obtain⟨JG,JH,Qb⟩:=qv (HC.out.keep HX.out ay.out);have hb0:=(je.out.keep BR.out Yc.out) 0 _ rfl;obtain⟨r0,r1⟩:=HR2.out _ HX.out;clear hb))
       by_cases hka:k<AB.length;rotate_left
       ·have SL:=zH (Te (c:=(i:Int)) (ab:=AB) (k:=k) bA.out Bu.out D4.out (by omega));have yo:=zH (HKK.out.trans (by rw[SL.out,Bool.true_and]));exact Pz
       have hq0:=Ca.out AB[k] (Xd hka);have hqp:=yz.out c1 AB[k] (by rw[qY.out];exact Xd hka);have FO:=zH (Xc hka);obtain⟨sP,rfl,CJ,hcq⟩:=BI.out.row.at_ hka;rw[Xq]at hcq;generalize AB[k]=qq at*
       obtain⟨q,rfl⟩:=Xj hq0;obtain⟨gm,hgm,QZ⟩:=hqp;rw[Xo]at hgm;obtain⟨fV,_⟩:=Xv.mp hgm;obtain⟨QD,e6,BN,hcg⟩:=HI.out.methods.row q gm hgm;have BD:=zH hgm;obtain⟨ga,gl,⟨jY,jW⟩,gc,gd,gp,gh⟩:=gm;obtain⟨⟨ag,i0,g0,hg0⟩,⟨ai,i1,g1,_⟩,g2,g3,⟨au,i4,g4,_⟩,g5,g6,⟨ae,i7,g7,_⟩⟩:=hcg;dsimp only at g0 g1 g2 g3 g4 g5 g6 g7 hg0 QZ;have nJ:(QD.add (q*8)).block<w1.heap.size:=by rw[zC];exact BN
       have dz:=zH hg0;have hi0:=hg0.le;have qlf:=hg0.cap;have g0:=(HX.out.cell nJ).trans g0;have g1:=(HX.out.cell (p:=zc (QD.add (q*8)) 1) nJ).trans g1;have g2:=(HX.out.cell (p:=zc (QD.add (q*8)) 2) nJ).trans g2;have g3:=(HX.out.cell (p:=zc (QD.add (q*8)) 3) nJ).trans g3;have g4:=(HX.out.cell (p:=zc (QD.add (q*8)) 4) nJ).trans g4;have g5:=(HX.out.cell (p:=zc (QD.add (q*8)) 5) nJ).trans g5;have g6:=(HX.out.cell (p:=zc (QD.add (q*8)) 6) nJ).trans g6;have g7:=(HX.out.cell (p:=zc (QD.add (q*8)) 7) nJ).trans g7;have tF:=(HX.out.cell (p:=sP.add k) (by rw[zC];exact CJ)).trans hcq;rw[e6]at jB;have e1:=World.new_ne w3 _ jB;have e4:=World.new_ne w3 _ tF;have e5:=World.new_ne w3 _ g0;clear e6 hgm hg0 hcq CJ BN;go_upto_region 18 with fail
       go_region_held3 (fun w'=>w'.cell? ⟨w.heap.size,3,none⟩=some (.slice (some QD) m.methods.length h.c3)/\w'.cell? (sP.add k)=some (.int .i64 (q:Int))/\w'.cell? (QD.add (q*8))=some (.slice ag ga.length i0)/\w'.cell? (zc (QD.add (q*8)) 1)=some (.slice ai gl.length i1)/\w'.cell? (zc (QD.add (q*8)) 2)=some (.int .i64 jY)/\w'.cell? (zc (QD.add (q*8)) 3)=some (.int .i64 jW)/\w'.cell? (zc (QD.add (q*8)) 4)=some (.slice au gc.length i4)/\w'.cell? (zc (QD.add (q*8)) 5)=some (.int .i64 gd)/\w'.cell? (zc (QD.add (q*8)) 6)=some (.int .i64 gp)/\w'.cell? (zc (QD.add (q*8)) 7)=some (.slice ae gh.length i7)) (go_keep) (first|fail)
       go_upto_region 19 with fail
       have qR:=zH (qr w3 [.slice ag ga.length i0,.slice ai gl.length i1,.int .i64 jY,.int .i64 jW,.slice au gc.length i4,.int .i64 gd,.int .i64 gp,.slice ae gh.length i7] 48);have je:Hid (zQ (w3.alloc (.cells ([.slice ag ga.length i0,.slice ai gl.length i1,.int .i64 jY,.int .i64 jW,.slice au gc.length i4,.int .i64 gd,.int .i64 gp,.slice ae gh.length i7]:List Value).toArray 48)).drew gf [.slice (some kH) fa.length j0,.slice bg fl.length j1,.int .i64 qi,.int .i64 qB,.slice bB fc.length j4,.int .i64 fd,.int .i64 fp,.slice bH fh.length j7]):=zH (je.out.keep (BR.out.trans ((zb _ _).alloc BR.out.size (.cells ([.slice ag ga.length i0,.slice ai gl.length i1,.int .i64 jY,.int .i64 jW,.slice au gc.length i4,.int .i64 gd,.int .i64 gp,.slice ae gh.length i7]:List Value).toArray 48)).drew) Yc.out);have HX:=zH (HX.out.alloc HX.out.size (.cells ([.slice ag ga.length i0,.slice ai gl.length i1,.int .i64 jY,.int .i64 jW,.slice au gc.length i4,.int .i64 gd,.int .i64 gp,.slice ae gh.length i7]:List Value).toArray 48)).drew;have qR:Hid (zQ (w3.alloc (.cells ([.slice ag ga.length i0,.slice ai gl.length i1,.int .i64 jY,.int .i64 jW,.slice au gc.length i4,.int .i64 gd,.int .i64 gp,.slice ae gh.length i7]:List Value).toArray 48)).drew w3.heap.size [.slice ag ga.length i0,.slice ai gl.length i1,.int .i64 jY,.int .i64 jW,.slice au gc.length i4,.int .i64 gd,.int .i64 gp,.slice ae gh.length i7]):=qR;clear jN vj vn jB vm vk vo JG JH Qb tF g0 g1 g2 g3 g4 g5 g6 g7 e1 e4 e5 hb0 r0 r1;generalize(w3.alloc (.cells ([.slice ag ga.length i0,.slice ai gl.length i1,.int .i64 jY,.int .i64 jW,.slice au gc.length i4,.int .i64 gd,.int .i64 gp,.slice ae gh.length i7]:List Value).toArray 48)).drew=w4 at*
       generalize w3.heap.size=gg at*
       have Nr:=je.out 0 _ rfl;have hb2:=je.out 2 _ rfl;have hb3:=je.out 3 _ rfl;have hg0':=qR.out 0 _ rfl;have hg2:=qR.out 2 _ rfl;have hg3:=qR.out 3 _ rfl;obtain⟨Qh,rfl,_,_⟩:=dz.out.row.at_ QZ;have bI:Hid (gf<w4.heap.size):=zH (World.block_lt_of_cell? w4 _ Nr);have aT:Hid (gg<w4.heap.size):=zH (World.block_lt_of_cell? w4 _ hg0');have qf:=zH HX.out.drew;have Hz:Hid (Below w4.heap.size w4 w4.drew):=zH (zb _ _).drew;have uf:Hid (ZB m (i:Int) AB k (n:Int)=(decide (fa.drop 1=ga.drop 1)&& decide ((qi,qB)=(jY,jW)))):=zH (Rw (c:=(i:Int)) (ab:=AB) (k:=k) bA.out Bu.out D4.out FO.out BD.out);have hf1:(1:Int)<=(fa.length:Int):=by omega
       have hf2:1<=fa.length:=hfp;have hf3:(fa.length:Int)<=(j0:Int):=by omega
       have hg1':(1:Int)<=(ga.length:Int):=by omega
       have qlg:1<=ga.length:=QZ;have hg3':(ga.length:Int)<=(i0:Int):=by omega
       obtain⟨vf,dS⟩:∃v,v=Value.slice (some kH) fa.length j0:=⟨_,rfl⟩
       obtain⟨vg,dQ⟩:∃v,v=Value.slice (some Qh) ga.length i0:=⟨_,rfl⟩
       have iQ:w4.cell? ⟨gf,0,none⟩=some vf:=by rw[dS];exact Nr
       have iO:w4.cell? ⟨gg,0,none⟩=some vg:=by rw[dQ];exact hg0'
       clear Nr hg0';obtain⟨d5,hd5⟩:∃d,decide (fa.drop 1=ga.drop 1)=d:=⟨_,rfl⟩
       have D5:=zH hd5;clear hd5;by_cases hj1:j0=1
       ·subst hj1;have dK:=zH (uR dE.out hfp);by_cases hi1:i0=1
        ·subst hi1;have YE:=zH (uR dz.out QZ);have JD:Hid ((fa.drop 1).length=0):=zH (by rw[XK];omega);have YM:Hid ((ga.drop 1).length=0):=zH (by rw[XK];omega);exact Di
        ·have YE:=zH (ww dz.out QZ);have JD:Hid ((fa.drop 1).length=0):=zH (by rw[XK];omega);have YM:Hid ((ga.drop 1).length=ga.length - 1):=zH XK;exact Di
       ·have dK:=zH (ww dE.out hfp);by_cases hi1:i0=1
        ·subst hi1;have YE:=zH (uR dz.out QZ);have JD:Hid ((fa.drop 1).length=fa.length - 1):=zH XK;have YM:Hid ((ga.drop 1).length=0):=zH (by rw[XK];omega);exact Di
        ·have YE:=zH (ww dz.out QZ);have JD:Hid ((fa.drop 1).length=fa.length - 1):=zH XK;have YM:Hid ((ga.drop 1).length=ga.length - 1):=zH XK;exact Di
    ·have SL:=zH (qfx (c:=(i:Int)) (ab:=AB) (k:=k) (m:=m) (Nat.le_of_not_lt hnl));have E2:=zH (show jG m (i:Int) x=false by unfold jG;rw[qY.out,HKK.out,SL.out];simp);go_upto_region 12 with fail
     go_quiet (fail)
     go_wp2_with fail
     go_ret;exact⟨by rw[E2.out];rfl,HW.out.trans ((jf HX.out _).mono Zp.out)⟩
   ·have E2:=zH (show jG m (i:Int) x=true by unfold jG;rw[qY.out,HK.out,Wm (by omega),Xi c1,D1.out,HL.out,Xi c2,Xi c3];rfl);exact Iq
