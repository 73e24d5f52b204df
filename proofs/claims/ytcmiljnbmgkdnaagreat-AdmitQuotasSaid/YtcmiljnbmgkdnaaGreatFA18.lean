import Derived.Deep.DeepCutAuto
import Derived.Test.YtcmiljnbmgkdnaaGreatFA13
namespace Go.Proofs.YtcmiljnbmgkdnaaGreat
set_option maxRecDepth 100000
set_option linter.unusedVariables false
set_option linter.unusedSimpArgs false
open Go.ChangeShapes Go.WideShapes Go.ChangeAt Go.RowKit
def vk(m:za)(c:Int)(ab:List Int)(k:Nat)(s:Int):Bool:=
 match m.methods[s.toNat]? with
 |none=>false
 |some f=>match f.args with
  | []=>false
  |t::r=>zw (zt m.classes) 3 c t.1 t.2&& (match ab[k]? with
    |none=>true
    |some q=>match m.methods[q.toNat]? with
     |none=>true
     |some g=>decide (r=g.args.drop 1)&& decide (f.ret=g.ret))
def vB(m:za)(c:Int)(ab:List Int):Nat→List Int→Bool
 |_,[]=>true
 |k,s::r=>vk m c ab k s&& vB m c ab (k+1) r
def vu(m:za)(x:zO):List Int:=if 0≤x.sup then(match m.classes[x.sup.toNat]? with
 |some y=>y.slots
 |none=> [])else []
def qs(m:za)(c:Int)(x:zO):Bool:=
 decide (x.sup<c)&& (js x.fields m.classes.length&& (decide ((zV m.classes c).length≤8)&& (decide ((vu m x).length≤x.slots.length)&& vB m c (vu m x) 0 x.slots)))
abbrev clsL(A1 A2:Option Addr)(k1 k2:Nat)(x:zO):List Value:=[.int .i64 x.sup,.slice A1 x.fields.length k1,.slice A2 x.slots.length k2]
theorem q3v{m:za}{c:Int}{ab l:List Int}{k:Nat}(hk:k<l.length):vB m c ab k (l.drop k)=(vk m c ab k l[k]&& vB m c ab (k+1) (l.drop (k+1))):=by
 rw[Wr hk];rfl
theorem VV{l m:List (Int×Int)}{A A':Option Addr}{cap cap' n n':Nat}{w0 w:World}{r:Bool}(HL:Hid (zd zh 2 w0 w0.heap.size A cap l))(HM:Hid (zd zh 2 w0 w0.heap.size A' cap' m))(HX:Hid (Below w0.heap.size w0 w))(HN:Hid (l.length=n))(HN':Hid (m.length=n'))(HR:Hid (decide (l=m)=r)):
  Calls Tryz.prog 31 #[.slice A n cap,.slice A' n' cap'] w fun e w'=>e= .returned (.bool r)∧Below w.heap.size w w':=by
 obtain rfl:=HN.out;obtain rfl:=HN'.out;have h:=q6o l m A A' cap cap' w0.heap.size w HX.out.size (HL.out.below_to zh.keeps HX.out (zn _)) (HM.out.below_to zh.keeps HX.out (zn _));rw[HR.out]at h;exact h
theorem Vl{w:World}{B:Nat}{ad:Addr}{l:List (Int×Int)}(h:zd zh 2 w B (some ad) 1 l)(h0:0<l.length):zd zh 2 w B (some ad) 0 (l.drop 1):=by
 have:=h.le;rw[List.drop_eq_nil_of_le (by omega)];exact⟨zn _,by omega,qB.nil⟩
theorem Vt{w:World}{B cap:Nat}{ad:Addr}{l:List (Int×Int)}(h:zd zh 2 w B (some ad) cap l)(h0:0<l.length):zd zh 2 w B (some ⟨ad.block,ad.off+2,none⟩) (cap - 1) (l.drop 1):=by
 have:=h.le;have:=h.cap;refine⟨by rw[XF];omega,by omega,fun i x hi=> ?_⟩;rw[List.getElem?_drop]at hi;obtain⟨ad',e,hb,ht⟩:=h.row (1+i) x hi;injection e with e;subst e;refine⟨_,rfl,hb,?_⟩;have e2:(Addr.add ⟨ad.block,ad.off+2,none⟩ (i*2))=ad.add ((1+i)*2):=by
  have e3:(⟨ad.block,ad.off+2,none⟩:Addr)=ad.add 2:=by unfold Addr.add;simp
  rw[e3,Vc];congr 1;omega
 rw[e2];exact ht
theorem q6d{m:za}{h:zg}{c t0 t1:Int}{w0 w:World}{r:Bool}(HI:Hid (zi w0 w0.heap.size h m))(HX:Hid (Below w0.heap.size w0 w))(HN:Hid (m.classes.length≤1000))(HR:Hid (zw (zt m.classes) 3 c t0 t1=r)):
  Calls Tryz.prog 98 #[.slice h.A0 m.classes.length h.c0,zA 3 c,zA t0 t1] w fun e w'=>e= .returned (.bool r)∧Below w.heap.size w w':=by
 have H:=Jq (zt m.classes) 3 c t0 t1 h.A0 h.c0 w.heap.size w (by rw[jS];have:=HN.out;omega) (zn _) (Qp (HI.out.now HX.out).classes.row);rw[HR.out,jS]at H;exact H
theorem qc9{m:za}{c:Int}{ab:List Int}{k n:Nat}{f:zf}(h:m.methods[n]? =some f)(hf:f.args=[]):vk m c ab k (n:Int)=false:=by
 unfold vk;rw[Xe,h];dsimp only;rw[hf]
theorem qc8{m:za}{c:Int}{ab:List Int}{k n:Nat}(h:m.methods.length≤n):vk m c ab k (n:Int)=false:=by
 unfold vk;rw[Xe,Xu h]
theorem qc7{m:za}{c:Int}{ab:List Int}{k n:Nat}{f:zf}{t:Int×Int}{r:List (Int×Int)}(h:m.methods[n]? =some f)(hf:f.args=t::r)(hs:zw (zt m.classes) 3 c t.1 t.2=false):vk m c ab k (n:Int)=false:=by
 unfold vk;rw[Xe,h];dsimp only;rw[hf];dsimp only;rw[hs];rfl
theorem q4l{m:za}{c:Int}{ab:List Int}{k n:Nat}{f:zf}{t:Int×Int}{r:List (Int×Int)}(h:m.methods[n]? =some f)(hf:f.args=t::r)(hs:zw (zt m.classes) 3 c t.1 t.2=true)(hk:ab.length≤k):vk m c ab k (n:Int)=true:=by
 unfold vk;rw[Xe,h];dsimp only;rw[hf];dsimp only;rw[hs,Xu hk];rfl
theorem q8p{m:za}{c:Int}{ab:List Int}{k n q:Nat}{f g:zf}{t:Int×Int}{r:List (Int×Int)}(h:m.methods[n]? =some f)(hf:f.args=t::r)(hs:zw (zt m.classes) 3 c t.1 t.2=true)(hk:ab[k]? =some (q:Int))(hq:m.methods[q]? =some g):
  vk m c ab k (n:Int)=(decide (r=g.args.drop 1)&& decide (f.ret=g.ret)):=by
 unfold vk;rw[Xe,h];dsimp only;rw[hf];dsimp only;rw[hs,hk];dsimp only;rw[Xe,hq];simp
theorem qfo{P:Prop}(h:P:=by
 refine mT 0 (h:=mT 1 (h:=mT 2 (h:=mT 3 (h:=mT 4 (h:=mT 5 (h:= ?_))))));refine wpAnyH_ready (rs:=[6]) (by kernel_rfl) (by simp) ?_;refine AllReadyH.cons (o:=_) rfl (fun K hK=> ?_) AllReadyH.nil;go_simp;(go_at_call 31;(with_reducible refine(VV HSfd HSgd HXd HNf HNg D5).mono ?_);rintro e w5 ⟨rfl,hb⟩;have HX:=zl HXd hb;have HB45:=zl HB4d hb;have hbF:w5.cell? ⟨gf,0,none⟩=some vf:=(by rw[hvf];exact(HFB.out.keep HB45.out HFZ4.out) 0 _ rfl);have hb2:=(HFB.out.keep HB45.out HFZ4.out) 2 _ rfl;have hb3:=(HFB.out.keep HB45.out HFZ4.out) 3 _ rfl;have hgF:w5.cell? ⟨gg,0,none⟩=some vg:=(by rw[hvg];exact(HGB.out.keep HB45.out HGZ4.out) 0 _ rfl);have hg2:=(HGB.out.keep HB45.out HGZ4.out) 2 _ rfl;have hg3:=(HGB.out.keep HB45.out HGZ4.out) 3 _ rfl;clear hb)
 refine hK.out _ _ ⟨hbF,hb2,hb3,hgF,hg2,hg3⟩ (fun hHeld=> ?_);clear hK K;try simp only[sA,sB,sC,Act.put,sD,sE,sF]
 refine mT 7 (h:=mT 8 (h:=mU 9 (h:=mU 10 (h:=mU 11 (h:=mU 12 (h:=mU 13 (h:=mT 14 (h:= ?_))))))));refine wpAnyH_done (by kernel_rfl) ?_ _;refine NoPanic.normal ?_;go_wp2_with fail
 go_ret;exact⟨by rw[E2.out];rfl,HW.out.trans (HX.out.mono HZw.out)⟩):P:=h
theorem q17{P:Prop}(h:P:=by
 go_wp2_with(first|(go_at_call 53;(with_reducible refine(Qa HI HSf HX D1).mono ?_);rintro e w5 ⟨rfl,hb⟩;have HX:=zl HX hb;obtain⟨kq0,kq1,kq2,kq3,kq4,kq5,kq6⟩:=qt (HQ.out.keep HX.out HQZ.out);obtain⟨kc0,kc1,kc2⟩:=zM (HC.out.keep HX.out HCZ.out);clear hb)|(go_at_call 46;(with_reducible refine(VR HI HX HN HF HL).mono ?_);rintro e w5 ⟨A9,k9,rfl,hb⟩;have HX:=zl HX hb;obtain⟨kq0,kq1,kq2,kq3,kq4,kq5,kq6⟩:=qt (HQ.out.keep HX.out HQZ.out);obtain⟨kc0,kc1,kc2⟩:=zM (HC.out.keep HX.out HCZ.out);clear hb))
 go_ret;exact⟨by rw[E2.out];rfl,HW.out.trans (HX.out.mono HZw.out)⟩):P:=h
theorem q7e{P:Prop}(h:P:=by
 have E2:=zH (show qs m (i:Int) x=false by unfold qs;rw[HAB.out,HKK.out,SL.out];simp);go_region_held3 (fun w'=>w'.cell? ⟨w.heap.size,0,none⟩=some (.slice h.A0 m.classes.length h.c0)∧w'.cell? ⟨gf,0,none⟩=some (.slice (some adt) fa.length j0)∧w'.cell? adt=some (.int .i64 t0)∧w'.cell? (zc adt 1)=some (.int .i64 t1)) (first|exact⟨kq0,hb0,r0,r1⟩) (first|(go_at_call 98;(with_reducible refine(q6d HI HXd HN D4).mono ?_);rintro e w3 ⟨rfl,hb⟩;have HX:=zl HXd hb;have HB23:=zl HB2d hb;obtain⟨kq0,kq1,kq2,kq3,kq4,kq5,kq6⟩:=qt (HQ.out.keep HX.out HQZ.out);obtain⟨kc0,kc1,kc2⟩:=zM (HC.out.keep HX.out HCZ.out);have hb0:=(HFB.out.keep HB23.out HFBZ.out) 0 _ rfl;obtain⟨r0,r1⟩:=HR2.out _ HX.out;clear hb))
 go_wp2_with fail
 go_ret;exact⟨by rw[E2.out];rfl,HW.out.trans (HX.out.mono HZw.out)⟩):P:=h
theorem q16{P:Prop}(h:P:=by
 go_wp2_with fail
 go_ret;exact⟨by rw[E2.out];rfl,HW.out.trans (HX.out.mono HZw.out)⟩):P:=h
theorem q3b{P:Prop}(h:P:=by
 go_wp2_with fail
 go_roundw;case rel=>exact⟨k+1,by omega,by go_num,HK2,HX⟩
 case measure=>simp[intOf];omega):P:=h
theorem q7d{P:Prop}(h:P:=by
 have E2:=zH (show qs m (i:Int) x=false by unfold qs;rw[HAB.out,HKK.out,SL.out];simp);have ht0:((fa.length:Int)==0)=true:=X6.mpr (by omega);clear hfa0;go_quiet (fail)
 go_wp2_with fail
 go_ret;exact⟨by rw[E2.out];rfl,HW.out.trans ((qZ HX.out _).mono HZw.out)⟩):P:=h
theorem q15{P:Prop}(h:P:=by
 cases d5
 ·have SL:=zH (SL0.out.trans (by rw[D5.out]<;>rfl));have E2:=zH (show qs m (i:Int) x=false by unfold qs;rw[HAB.out,HKK.out,SL.out];simp);refine wp_region_noPanic ?_;refine wp_region_held_drew (S:=(fun w'=>w'.cell? ⟨gf,0,none⟩=some vf∧w'.cell? ⟨gf,2,none⟩=some (.int .i64 fr0)∧w'.cell? ⟨gf,3,none⟩=some (.int .i64 fr1)∧w'.cell? ⟨gg,0,none⟩=some vg∧w'.cell? ⟨gg,2,none⟩=some (.int .i64 gr0)∧w'.cell? ⟨gg,3,none⟩=some (.int .i64 gr1))) (by kernel_rfl) ⟨hbF,hb2,hb3,hgF,hg2,hg3⟩ (fun hHeld=> ?_);exact qfo
 ·by_cases hret:fr0=gr0∧fr1=gr1
  ·obtain⟨rfl,rfl⟩:=hret;have SL:=zH (SL0.out.trans (by rw[D5.out,Xh (rfl:(fr0,fr1)=(fr0,fr1))]<;>rfl));have HK2:=zH (HKK.out.trans (by rw[SL.out,Bool.true_and]));go_region_held3 (fun w'=>w'.cell? ⟨gf,0,none⟩=some vf∧w'.cell? ⟨gf,2,none⟩=some (.int .i64 fr0)∧w'.cell? ⟨gf,3,none⟩=some (.int .i64 fr1)∧w'.cell? ⟨gg,0,none⟩=some vg∧w'.cell? ⟨gg,2,none⟩=some (.int .i64 fr0)∧w'.cell? ⟨gg,3,none⟩=some (.int .i64 fr1)) (first|exact⟨hbF,hb2,hb3,hgF,hg2,hg3⟩) (first|(go_at_call 31;(with_reducible refine(VV HSfd HSgd HXd HNf HNg D5).mono ?_);rintro e w5 ⟨rfl,hb⟩;have HX:=zl HXd hb;have HB45:=zl HB4d hb;have hbF:w5.cell? ⟨gf,0,none⟩=some vf:=(by rw[hvf];exact(HFB.out.keep HB45.out HFZ4.out) 0 _ rfl);have hb2:=(HFB.out.keep HB45.out HFZ4.out) 2 _ rfl;have hb3:=(HFB.out.keep HB45.out HFZ4.out) 3 _ rfl;have hgF:w5.cell? ⟨gg,0,none⟩=some vg:=(by rw[hvg];exact(HGB.out.keep HB45.out HGZ4.out) 0 _ rfl);have hg2:=(HGB.out.keep HB45.out HGZ4.out) 2 _ rfl;have hg3:=(HGB.out.keep HB45.out HGZ4.out) 3 _ rfl;clear hb))
   exact q3b
  ·have SL:=zH (SL0.out.trans (by rw[D5.out,Xf (show ¬(fr0,fr1)=(gr0,gr1)by simpa using hret)]<;>rfl));have E2:=zH (show qs m (i:Int) x=false by unfold qs;rw[HAB.out,HKK.out,SL.out];simp);have hxx:¬fr0=gr0∨(fr0=gr0∧¬fr1=gr1):=by omega
   clear hret;rcases hxx with hxx|⟨rfl,hxx⟩
   ·go_region_held3 (fun w'=>w'.cell? ⟨gf,0,none⟩=some vf∧w'.cell? ⟨gf,2,none⟩=some (.int .i64 fr0)∧w'.cell? ⟨gf,3,none⟩=some (.int .i64 fr1)∧w'.cell? ⟨gg,0,none⟩=some vg∧w'.cell? ⟨gg,2,none⟩=some (.int .i64 gr0)∧w'.cell? ⟨gg,3,none⟩=some (.int .i64 gr1)) (first|exact⟨hbF,hb2,hb3,hgF,hg2,hg3⟩) (first|(go_at_call 31;(with_reducible refine(VV HSfd HSgd HXd HNf HNg D5).mono ?_);rintro e w5 ⟨rfl,hb⟩;have HX:=zl HXd hb;have HB45:=zl HB4d hb;have hbF:w5.cell? ⟨gf,0,none⟩=some vf:=(by rw[hvf];exact(HFB.out.keep HB45.out HFZ4.out) 0 _ rfl);have hb2:=(HFB.out.keep HB45.out HFZ4.out) 2 _ rfl;have hb3:=(HFB.out.keep HB45.out HFZ4.out) 3 _ rfl;have hgF:w5.cell? ⟨gg,0,none⟩=some vg:=(by rw[hvg];exact(HGB.out.keep HB45.out HGZ4.out) 0 _ rfl);have hg2:=(HGB.out.keep HB45.out HGZ4.out) 2 _ rfl;have hg3:=(HGB.out.keep HB45.out HGZ4.out) 3 _ rfl;clear hb))
    exact q16
   ·go_region_held3 (fun w'=>w'.cell? ⟨gf,0,none⟩=some vf∧w'.cell? ⟨gf,2,none⟩=some (.int .i64 fr0)∧w'.cell? ⟨gf,3,none⟩=some (.int .i64 fr1)∧w'.cell? ⟨gg,0,none⟩=some vg∧w'.cell? ⟨gg,2,none⟩=some (.int .i64 fr0)∧w'.cell? ⟨gg,3,none⟩=some (.int .i64 gr1)) (first|exact⟨hbF,hb2,hb3,hgF,hg2,hg3⟩) (first|(go_at_call 31;(with_reducible refine(VV HSfd HSgd HXd HNf HNg D5).mono ?_);rintro e w5 ⟨rfl,hb⟩;have HX:=zl HXd hb;have HB45:=zl HB4d hb;have hbF:w5.cell? ⟨gf,0,none⟩=some vf:=(by rw[hvf];exact(HFB.out.keep HB45.out HFZ4.out) 0 _ rfl);have hb2:=(HFB.out.keep HB45.out HFZ4.out) 2 _ rfl;have hb3:=(HFB.out.keep HB45.out HFZ4.out) 3 _ rfl;have hgF:w5.cell? ⟨gg,0,none⟩=some vg:=(by rw[hvg];exact(HGB.out.keep HB45.out HGZ4.out) 0 _ rfl);have hg2:=(HGB.out.keep HB45.out HGZ4.out) 2 _ rfl;have hg3:=(HGB.out.keep HB45.out HGZ4.out) 3 _ rfl;clear hb))
    exact q16):P:=h
set_option maxHeartbeats 6400000 in
theorem qic(m:za)(x:zO)(i:Nat)(h:zg)(w:World)(H:zi w w.heap.size h m)(ht:Ql m)(hx:m.classes[i]? =some x)(hs:∀y ∈m.classes,∀s ∈y.slots,0≤s)
  (hq:x.sup<(i:Int)→∀q ∈vu m x,∃g,m.methods[q.toNat]? =some g∧0<g.args.length):
  Calls Tryz.prog 54 #[zk h m,.int .i64 (i:Int)] w fun e w'=>e= .returned (.bool (qs m (i:Int) x))∧Below w.heap.size w w':=by
 obtain⟨hil,hxe⟩:=Xw.mp hx;obtain⟨ad,hA0,hab,hcl⟩:=H.classes.row i x hx;obtain⟨s0,⟨A1,k1,s1,hs1⟩,⟨A2,k2,s2,hs2⟩⟩:=hcl;obtain⟨hq0,hp0,hb,hz⟩:=q1i w (jY h m) (clsL A1 A2 k1 k2 x) 28 81;have HQ:=zH hq0;have HC:=zH hp0;have HW:=zH hb;have HI:=zH (H.now hb);have HSf:=zH ((hs1.below_to zh.keeps hb (zn _)).keep' zh.keeps hb.size (fun _ _=>rfl));have HSs:=zH ((hs2.below_to zq.keeps hb (zn _)).keep' zq.keeps hb.size (fun _ _=>rfl));have HT:=zH ht;have HXM:=zH (Xo hx);have HN:=zH ht.n;have HF:=zH ht.f;have HS0:=zH hs;have HPQ:=zH hq;have HA0:=zH hA0;have hw0:Below w.heap.size w (w.alloc (.cells (jY h m).toArray 28)):=(zb _ _).alloc (zn _) _;have r0:=(hw0.cell (p:=ad.add (i*3)) (by rw[zp];exact hab)).trans s0;have r1:=(hw0.cell (p:=zc (ad.add (i*3)) 1) (by show(ad.add _).block<_;rw[zp];exact hab)).trans s1;have r2:=(hw0.cell (p:=zc (ad.add (i*3)) 2) (by show(ad.add _).block<_;rw[zp];exact hab)).trans s2;have b0:(w.alloc (.cells (jY h m).toArray 28)).cell? ⟨w.heap.size,0,none⟩=some (.slice (some ad) m.classes.length h.c0):=by rw[←hA0];exact qa w (jY h m) 28 0 _ rfl
 have HQZ:Hid (w.heap.size<((w.alloc (.cells (jY h m).toArray 28)).alloc (.cells (clsL A1 A2 k1 k2 x).toArray 81)).heap.size):=zH (by omega);have HCZ:Hid (w.heap.size+1<((w.alloc (.cells (jY h m).toArray 28)).alloc (.cells (clsL A1 A2 k1 k2 x).toArray 81)).heap.size):=zH (by omega);have HZw:Hid (w.heap.size≤((w.alloc (.cells (jY h m).toArray 28)).alloc (.cells (clsL A1 A2 k1 k2 x).toArray 81)).heap.size):=zH (by omega);have l0:=H.classes.le;have l0c:=H.classes.cap;have l3:=H.methods.le;have l3c:=H.methods.cap;have l5:=hs2.le;have l5c:=hs2.cap;obtain⟨L,hL⟩:∃L,zV m.classes (i:Int)=L:=⟨_,rfl⟩
 have HL:=zH hL;obtain⟨d1,hd1⟩:∃d,js x.fields m.classes.length=d:=⟨_,rfl⟩
 have D1:=zH hd1;obtain⟨AB,hAB⟩:∃AB,vu m x=AB:=⟨_,rfl⟩
 have HAB:=zH hAB;clear hq0 hp0 hb hz H ht hx hxe hs hq hs1 hs2 s0 s1 s2 hab hw0 hL hd1 hAB hA0;go_enter Tryz.func54,Tryz.ntmps54;go_upto_region 1 with fail
 have hz0:(w.alloc (.cells (jY h m).toArray 28)).heap.size=w.heap.size+1:=by simp
 have HZ0:=zH hz0;clear hz0;generalize w.alloc (.cells (jY h m).toArray 28)=w0 at*
 go_upto_region 2 with fail
 clear r0 r1 r2 b0;rw[HZ0.out];generalize w0.alloc (.cells (clsL A1 A2 k1 k2 x).toArray 81)=w1 at*
 have HX:Hid (Below w1.heap.size w1 w1):=zH (zb _ _);obtain⟨kq0,kq1,kq2,kq3,kq4,kq5,kq6⟩:=qt (HQ.out.keep HX.out HQZ.out);obtain⟨kc0,kc1,kc2⟩:=zM (HC.out.keep HX.out HCZ.out);have hc0:0≤(i:Int):=by omega
 by_cases c1:x.sup<(i:Int)
 rotate_left
 ·have ct1:(i:Int)≤x.sup:=by omega
  have E2:=zH (show qs m (i:Int) x=false by unfold qs;rw[Xf c1];rfl);exact q17
 cases d1
 ·have E2:=zH (show qs m (i:Int) x=false by unfold qs;rw[Xh c1,D1.out];rfl);exact q17
 by_cases c2:L.length≤8;rotate_left
 ·have ct2:(8:Int)<(L.length:Int):=by omega
  have E2:=zH (show qs m (i:Int) x=false by unfold qs;rw[HL.out,Xf c2];simp);exact q17
 have ct2:¬(8:Int)<(L.length:Int):=by omega
 go_upto_region 5 with(first|(go_at_call 53;(with_reducible refine(Qa HI HSf HX D1).mono ?_);rintro e w5 ⟨rfl,hb⟩;have HX:=zl HX hb;obtain⟨kq0,kq1,kq2,kq3,kq4,kq5,kq6⟩:=qt (HQ.out.keep HX.out HQZ.out);obtain⟨kc0,kc1,kc2⟩:=zM (HC.out.keep HX.out HCZ.out);clear hb)|(go_at_call 46;(with_reducible refine(VR HI HX HN HF HL).mono ?_);rintro e w5 ⟨A9,k9,rfl,hb⟩;have HX:=zl HX hb;obtain⟨kq0,kq1,kq2,kq3,kq4,kq5,kq6⟩:=qt (HQ.out.keep HX.out HQZ.out);obtain⟨kc0,kc1,kc2⟩:=zM (HC.out.keep HX.out HCZ.out);clear hb))
 have HX:=zH (HX.out.alloc HX.out.size (.cells #[] 3));generalize w5.alloc (.cells #[] 3)=w6 at*
 clear kq0 kq1 kq2 kq3 kq4 kq5 kq6 kc0 kc1 kc2;obtain⟨kq0,kq1,kq2,kq3,kq4,kq5,kq6⟩:=qt (HQ.out.keep HX.out HQZ.out);obtain⟨kc0,kc1,kc2⟩:=zM (HC.out.keep HX.out HCZ.out);by_cases hs0:0≤x.sup
 ·obtain⟨ny,hny⟩:=Xm hs0;have hnyl:ny<m.classes.length:=by omega
  obtain⟨ady,e0,haby,hcy⟩:=HI.out.classes.row.at_ hnyl;have HAY:=zH (show vu m x=m.classes[ny].slots by unfold vu;rw[Xb hs0,hny,Xe,Xc hnyl]);have HYM:=zH (Xd hnyl);generalize m.classes[ny]=y at*
  obtain⟨_,_,⟨A2y,k2y,sy,hsy⟩⟩:=hcy;obtain rfl:AB=y.slots:=HAB.out.symm.trans HAY.out;have HSy:=zH hsy;have ly:=hsy.le;have lyc:=hsy.cap;have sy:=(HX.out.cell (p:=zc (ady.add (ny*3)) 2) (by show(ady.add _).block<_;rw[zp];exact haby)).trans sy;rw[e0]at kq0;rw[hny]at kc0;have hnyi:(ny:Int)<m.classes.length:=by omega
  have hny0:¬(ny:Int)<0:=by omega
  clear e0 hsy haby hs0;by_cases c3:y.slots.length≤x.slots.length;rotate_left
  ·have ct3:(x.slots.length:Int)<(y.slots.length:Int):=by omega
   have E2:=zH (show qs m (i:Int) x=false by unfold qs;rw[HAB.out,Xf c3];simp);exact q17
  have ct3:¬(x.slots.length:Int)<(y.slots.length:Int):=by omega
  go_wp2_with(first|(go_at_call 53;(with_reducible refine(Qa HI HSf HX D1).mono ?_);rintro e w5 ⟨rfl,hb⟩;have HX:=zl HX hb;obtain⟨kq0,kq1,kq2,kq3,kq4,kq5,kq6⟩:=qt (HQ.out.keep HX.out HQZ.out);obtain⟨kc0,kc1,kc2⟩:=zM (HC.out.keep HX.out HCZ.out);clear hb)|(go_at_call 46;(with_reducible refine(VR HI HX HN HF HL).mono ?_);rintro e w5 ⟨A9,k9,rfl,hb⟩;have HX:=zl HX hb;obtain⟨kq0,kq1,kq2,kq3,kq4,kq5,kq6⟩:=qt (HQ.out.keep HX.out HQZ.out);obtain⟨kc0,kc1,kc2⟩:=zM (HC.out.keep HX.out HCZ.out);clear hb))
  go_loopw [7] (fun i' wr=>∃k:Nat,k≤x.slots.length∧i'= .int .i64 k∧Hid (vB m (i:Int) y.slots 0 x.slots=vB m (i:Int) y.slots k (x.slots.drop k))∧Hid (Below w1.heap.size w1 wr)) (fun i' _=>x.slots.length - (intOf i').toNat)
  case atStart=>exact⟨0,by omega,rfl,zH rfl,HX⟩
  case round=>
   clear HX kq0 kq1 kq2 kq3 kq4 kq5 kq6 kc0 kc1 kc2;obtain⟨k,hk,rfl,HK,HX⟩:=hrel;obtain⟨kq0,kq1,kq2,kq3,kq4,kq5,kq6⟩:=qt (HQ.out.keep HX.out HQZ.out);obtain⟨kc0,kc1,kc2⟩:=zM (HC.out.keep HX.out HCZ.out);by_cases hlt:k<x.slots.length
   ·obtain⟨ads,e2,habs,hcs⟩:=HSs.out.row.at_ hlt;have HKK:=zH (HK.out.trans (q3v hlt));have hs0:=HS0.out x HXM.out x.slots[k] (Xd hlt);have HE2:=zH e2;rw[e2]at kc2;rw[Xq]at hcs;have HCS:Hid (w1.cell? (ads.add k)=some (.int .i64 x.slots[k])):=zH hcs;have HBS:Hid ((ads.add k).block<w1.heap.size):=zH (by rw[zp];exact habs);generalize x.slots[k]=s at*
    obtain⟨n,rfl⟩:=Xm hs0;have ks:=(HX.out.cell HBS.out).trans HCS.out;clear e2 hcs habs hs0;by_cases hnl:n<m.methods.length
    ·obtain⟨adm,e3,habm,hcm⟩:=HI.out.methods.row.at_ hnl;have HME:=zH (Xc hnl);generalize m.methods[n]=f at*
     obtain⟨fa,fl,⟨fr0,fr1⟩,fc,fd,fp,fh⟩:=f;obtain⟨⟨A0f,j0,f0,hf0⟩,⟨A1f,j1,f1,_⟩,f2,f3,⟨A4f,j4,f4,_⟩,f5,f6,⟨A7f,j7,f7,_⟩⟩:=hcm;dsimp only at f0 f1 f2 f3 f4 f5 f6 f7 hf0;have hPm:(adm.add (n*8)).block<w1.heap.size:=by rw[zp];exact habm
     have HSfa:=zH hf0;have hj0:=hf0.le;have hj0c:=hf0.cap;go_upto_region 12 with fail
     rw[e3]at kq3;go_quiet (fail)
     go_upto_region 14 with fail
     have HX:=zH (qZ HX.out nq);generalize wr.drewN nq=wd at*
     clear kq0 kq1 kq2 kq3 kq4 kq5 kq6 kc0 kc1 kc2 ks;obtain⟨kq0,kq1,kq2,kq3,kq4,kq5,kq6⟩:=qt (HQ.out.keep HX.out HQZ.out);obtain⟨kc0,kc1,kc2⟩:=zM (HC.out.keep HX.out HCZ.out);rw[e3]at kq3;rw[HE2.out]at kc2;have ks:=(HX.out.cell HBS.out).trans HCS.out;have f0:=(HX.out.cell hPm).trans f0;have f1:=(HX.out.cell (p:=zc (adm.add (n*8)) 1) hPm).trans f1;have f2:=(HX.out.cell (p:=zc (adm.add (n*8)) 2) hPm).trans f2;have f3:=(HX.out.cell (p:=zc (adm.add (n*8)) 3) hPm).trans f3;have f4:=(HX.out.cell (p:=zc (adm.add (n*8)) 4) hPm).trans f4;have f5:=(HX.out.cell (p:=zc (adm.add (n*8)) 5) hPm).trans f5;have f6:=(HX.out.cell (p:=zc (adm.add (n*8)) 6) hPm).trans f6;have f7:=(HX.out.cell (p:=zc (adm.add (n*8)) 7) hPm).trans f7;have e1:=World.new_ne wd _ kq3;have e2:=World.new_ne wd _ kc2;have e4:=World.new_ne wd _ ks;have e5:=World.new_ne wd _ f0;clear e3;go_region_held3 (fun w'=>w'.cell? ⟨w.heap.size,3,none⟩=some (.slice (some adm) m.methods.length h.c3)∧w'.cell? ⟨w.heap.size+1,2,none⟩=some (.slice (some ads) x.slots.length k2)∧w'.cell? (ads.add k)=some (.int .i64 (n:Int))∧w'.cell? (adm.add (n*8))=some (.slice A0f fa.length j0)∧w'.cell? (zc (adm.add (n*8)) 1)=some (.slice A1f fl.length j1)∧w'.cell? (zc (adm.add (n*8)) 2)=some (.int .i64 fr0)∧w'.cell? (zc (adm.add (n*8)) 3)=some (.int .i64 fr1)∧w'.cell? (zc (adm.add (n*8)) 4)=some (.slice A4f fc.length j4)∧w'.cell? (zc (adm.add (n*8)) 5)=some (.int .i64 fd)∧w'.cell? (zc (adm.add (n*8)) 6)=some (.int .i64 fp)∧w'.cell? (zc (adm.add (n*8)) 7)=some (.slice A7f fh.length j7)) (go_keep) (first|fail)
     go_upto_region 15 with fail
     have HFB:=zH (qa wd [.slice A0f fa.length j0,.slice A1f fl.length j1,.int .i64 fr0,.int .i64 fr1,.slice A4f fc.length j4,.int .i64 fd,.int .i64 fp,.slice A7f fh.length j7] 53);have HX:=zH (HX.out.alloc HX.out.size (.cells ([.slice A0f fa.length j0,.slice A1f fl.length j1,.int .i64 fr0,.int .i64 fr1,.slice A4f fc.length j4,.int .i64 fd,.int .i64 fp,.slice A7f fh.length j7]:List Value).toArray 53)).drew;clear kq0 kq1 kq2 kq3 kq4 kq5 kq6 kc0 kc1 kc2 ks f0 f1 f2 f3 f4 f5 f6 f7 e1 e2 e4 e5;have HFB:Hid (zW (wd.alloc (.cells ([.slice A0f fa.length j0,.slice A1f fl.length j1,.int .i64 fr0,.int .i64 fr1,.slice A4f fc.length j4,.int .i64 fd,.int .i64 fp,.slice A7f fh.length j7]:List Value).toArray 53)).drew wd.heap.size [.slice A0f fa.length j0,.slice A1f fl.length j1,.int .i64 fr0,.int .i64 fr1,.slice A4f fc.length j4,.int .i64 fd,.int .i64 fp,.slice A7f fh.length j7]):=HFB;generalize(wd.alloc (.cells ([.slice A0f fa.length j0,.slice A1f fl.length j1,.int .i64 fr0,.int .i64 fr1,.slice A4f fc.length j4,.int .i64 fd,.int .i64 fp,.slice A7f fh.length j7]:List Value).toArray 53)).drew=w2 at*
     generalize wd.heap.size=gf at*
     have HFBZ:Hid (gf<w2.heap.size):=zH (World.block_lt_of_cell? w2 _ (HFB.out 0 _ rfl));obtain⟨kq0,kq1,kq2,kq3,kq4,kq5,kq6⟩:=qt (HQ.out.keep HX.out HQZ.out);obtain⟨kc0,kc1,kc2⟩:=zM (HC.out.keep HX.out HCZ.out);have hb0:=HFB.out 0 _ rfl;by_cases hfa0:fa.length=0
     ·have SL:=zH (qc9 (c:=(i:Int)) (ab:=y.slots) (k:=k) HME.out (XZ hfa0));exact q7d
     ·have hfp:0<fa.length:=by omega
      have ht0:((fa.length:Int)==0)=false:=XK.mpr (by omega);have HFT:=zH (show fa=fa[0]::fa.drop 1 from Wr hfp);obtain⟨adt,rfl,habt,r0,r1⟩:=HSfa.out.row.at_ hfp;clear hfa0;generalize fa[0]=t at*
      obtain⟨t0,t1⟩:=t;rw[Nat.zero_mul,show adt.add 0=adt by simp[Addr.add]]at r0 r1;have HR2:Hid (∀W,Below w1.heap.size w1 W→W.cell? adt=some (.int .i64 t0)∧W.cell? (zc adt 1)=some (.int .i64 t1)):=zH (fun W hW=>zh.keeps (x:=(t0,t1)) ⟨r0,r1⟩ habt (zn _) (fun _ hq=>hW.cell hq));obtain⟨r0,r1⟩:=HR2.out _ HX.out;have HXd:=zH HX.out.drew;have HB2d:Hid (Below w2.heap.size w2 w2.drew):=zH (zb _ _).drew;obtain⟨d4,hd4⟩:∃d,zw (zt m.classes) 3 (i:Int) t0 t1=d:=⟨_,rfl⟩
      have D4:=zH hd4;clear hd4 habt;cases d4
      ·have SL:=zH (qc7 (c:=(i:Int)) (ab:=y.slots) (k:=k) HME.out HFT.out D4.out);exact q7e
      ·go_region_held3 (fun w'=>w'.cell? ⟨w.heap.size,0,none⟩=some (.slice h.A0 m.classes.length h.c0)∧w'.cell? ⟨gf,0,none⟩=some (.slice (some adt) fa.length j0)∧w'.cell? adt=some (.int .i64 t0)∧w'.cell? (zc adt 1)=some (.int .i64 t1)) (first|exact⟨kq0,hb0,r0,r1⟩) (first|(go_at_call 98;(with_reducible refine(q6d HI HXd HN D4).mono ?_);rintro e w3 ⟨rfl,hb⟩;have HX:=zl HXd hb;have HB23:=zl HB2d hb;obtain⟨kq0,kq1,kq2,kq3,kq4,kq5,kq6⟩:=qt (HQ.out.keep HX.out HQZ.out);obtain⟨kc0,kc1,kc2⟩:=zM (HC.out.keep HX.out HCZ.out);have hb0:=(HFB.out.keep HB23.out HFBZ.out) 0 _ rfl;obtain⟨r0,r1⟩:=HR2.out _ HX.out;clear hb))
       by_cases hka:k<y.slots.length;rotate_left
       ·have SL:=zH (q4l (c:=(i:Int)) (ab:=y.slots) (k:=k) HME.out HFT.out D4.out (by omega));have HK2:=zH (HKK.out.trans (by rw[SL.out,Bool.true_and]));exact q3b
       have hq0:=HS0.out y HYM.out y.slots[k] (Xd hka);have hqp:=HPQ.out c1 y.slots[k] (by rw[HAB.out];exact Xd hka);have HQK:=zH (Xc hka);obtain⟨adq,rfl,habq,hcq⟩:=HSy.out.row.at_ hka;rw[Xq]at hcq;generalize y.slots[k]=qq at*
       obtain⟨q,rfl⟩:=Xm hq0;obtain⟨gm,hgm,hgp⟩:=hqp;rw[Xe]at hgm;obtain⟨hql,_⟩:=Xw.mp hgm;obtain⟨adm2,e6,habg,hcg⟩:=HI.out.methods.row q gm hgm;have HGE:=zH hgm;obtain⟨ga,gl,⟨gr0,gr1⟩,gc,gd,gp,gh⟩:=gm;obtain⟨⟨A0g,i0,g0,hg0⟩,⟨A1g,i1,g1,_⟩,g2,g3,⟨A4g,i4,g4,_⟩,g5,g6,⟨A7g,i7,g7,_⟩⟩:=hcg;dsimp only at g0 g1 g2 g3 g4 g5 g6 g7 hg0 hgp;have hPg:(adm2.add (q*8)).block<w1.heap.size:=by rw[zp];exact habg
       have HSga:=zH hg0;have hi0:=hg0.le;have hi0c:=hg0.cap;have g0:=(HX.out.cell hPg).trans g0;have g1:=(HX.out.cell (p:=zc (adm2.add (q*8)) 1) hPg).trans g1;have g2:=(HX.out.cell (p:=zc (adm2.add (q*8)) 2) hPg).trans g2;have g3:=(HX.out.cell (p:=zc (adm2.add (q*8)) 3) hPg).trans g3;have g4:=(HX.out.cell (p:=zc (adm2.add (q*8)) 4) hPg).trans g4;have g5:=(HX.out.cell (p:=zc (adm2.add (q*8)) 5) hPg).trans g5;have g6:=(HX.out.cell (p:=zc (adm2.add (q*8)) 6) hPg).trans g6;have g7:=(HX.out.cell (p:=zc (adm2.add (q*8)) 7) hPg).trans g7;have ksq:=(HX.out.cell (p:=adq.add k) (by rw[zp];exact habq)).trans hcq;rw[e6]at kq3;have e1:=World.new_ne w3 _ kq3;have e4:=World.new_ne w3 _ ksq;have e5:=World.new_ne w3 _ g0;clear e6 hgm hg0 hcq habq habg;go_upto_region 18 with fail
       go_region_held3 (fun w'=>w'.cell? ⟨w.heap.size,3,none⟩=some (.slice (some adm2) m.methods.length h.c3)∧w'.cell? (adq.add k)=some (.int .i64 (q:Int))∧w'.cell? (adm2.add (q*8))=some (.slice A0g ga.length i0)∧w'.cell? (zc (adm2.add (q*8)) 1)=some (.slice A1g gl.length i1)∧w'.cell? (zc (adm2.add (q*8)) 2)=some (.int .i64 gr0)∧w'.cell? (zc (adm2.add (q*8)) 3)=some (.int .i64 gr1)∧w'.cell? (zc (adm2.add (q*8)) 4)=some (.slice A4g gc.length i4)∧w'.cell? (zc (adm2.add (q*8)) 5)=some (.int .i64 gd)∧w'.cell? (zc (adm2.add (q*8)) 6)=some (.int .i64 gp)∧w'.cell? (zc (adm2.add (q*8)) 7)=some (.slice A7g gh.length i7)) (go_keep) (first|fail)
       go_upto_region 19 with fail
       have HGB:=zH (qa w3 [.slice A0g ga.length i0,.slice A1g gl.length i1,.int .i64 gr0,.int .i64 gr1,.slice A4g gc.length i4,.int .i64 gd,.int .i64 gp,.slice A7g gh.length i7] 53);have HFB:Hid (zW (w3.alloc (.cells ([.slice A0g ga.length i0,.slice A1g gl.length i1,.int .i64 gr0,.int .i64 gr1,.slice A4g gc.length i4,.int .i64 gd,.int .i64 gp,.slice A7g gh.length i7]:List Value).toArray 53)).drew gf [.slice (some adt) fa.length j0,.slice A1f fl.length j1,.int .i64 fr0,.int .i64 fr1,.slice A4f fc.length j4,.int .i64 fd,.int .i64 fp,.slice A7f fh.length j7]):=zH (HFB.out.keep (HB23.out.trans ((zb _ _).alloc HB23.out.size (.cells ([.slice A0g ga.length i0,.slice A1g gl.length i1,.int .i64 gr0,.int .i64 gr1,.slice A4g gc.length i4,.int .i64 gd,.int .i64 gp,.slice A7g gh.length i7]:List Value).toArray 53)).drew) HFBZ.out);have HX:=zH (HX.out.alloc HX.out.size (.cells ([.slice A0g ga.length i0,.slice A1g gl.length i1,.int .i64 gr0,.int .i64 gr1,.slice A4g gc.length i4,.int .i64 gd,.int .i64 gp,.slice A7g gh.length i7]:List Value).toArray 53)).drew;have HGB:Hid (zW (w3.alloc (.cells ([.slice A0g ga.length i0,.slice A1g gl.length i1,.int .i64 gr0,.int .i64 gr1,.slice A4g gc.length i4,.int .i64 gd,.int .i64 gp,.slice A7g gh.length i7]:List Value).toArray 53)).drew w3.heap.size [.slice A0g ga.length i0,.slice A1g gl.length i1,.int .i64 gr0,.int .i64 gr1,.slice A4g gc.length i4,.int .i64 gd,.int .i64 gp,.slice A7g gh.length i7]):=HGB;clear kq0 kq1 kq2 kq3 kq4 kq5 kq6 kc0 kc1 kc2 ksq g0 g1 g2 g3 g4 g5 g6 g7 e1 e4 e5 hb0 r0 r1;generalize(w3.alloc (.cells ([.slice A0g ga.length i0,.slice A1g gl.length i1,.int .i64 gr0,.int .i64 gr1,.slice A4g gc.length i4,.int .i64 gd,.int .i64 gp,.slice A7g gh.length i7]:List Value).toArray 53)).drew=w4 at*
       generalize w3.heap.size=gg at*
       have hb0':=HFB.out 0 _ rfl;have hb2:=HFB.out 2 _ rfl;have hb3:=HFB.out 3 _ rfl;have hg0':=HGB.out 0 _ rfl;have hg2:=HGB.out 2 _ rfl;have hg3:=HGB.out 3 _ rfl;obtain⟨adg,rfl,_,_⟩:=HSga.out.row.at_ hgp;have HFZ4:Hid (gf<w4.heap.size):=zH (World.block_lt_of_cell? w4 _ hb0');have HGZ4:Hid (gg<w4.heap.size):=zH (World.block_lt_of_cell? w4 _ hg0');have HXd:=zH HX.out.drew;have HB4d:Hid (Below w4.heap.size w4 w4.drew):=zH (zb _ _).drew;have SL0:Hid (vk m (i:Int) y.slots k (n:Int)=(decide (fa.drop 1=ga.drop 1)&& decide ((fr0,fr1)=(gr0,gr1)))):=zH (q8p (c:=(i:Int)) (ab:=y.slots) (k:=k) HME.out HFT.out D4.out HQK.out HGE.out);have hf1:(1:Int)≤(fa.length:Int):=by omega
       have hf2:1≤fa.length:=hfp;have hf3:(fa.length:Int)≤(j0:Int):=by omega
       have hg1':(1:Int)≤(ga.length:Int):=by omega
       have hg2':1≤ga.length:=hgp;have hg3':(ga.length:Int)≤(i0:Int):=by omega
       obtain⟨vf,hvf⟩:∃v,v=Value.slice (some adt) fa.length j0:=⟨_,rfl⟩
       obtain⟨vg,hvg⟩:∃v,v=Value.slice (some adg) ga.length i0:=⟨_,rfl⟩
       have hbF:w4.cell? ⟨gf,0,none⟩=some vf:=by rw[hvf];exact hb0'
       have hgF:w4.cell? ⟨gg,0,none⟩=some vg:=by rw[hvg];exact hg0'
       clear hb0' hg0';obtain⟨d5,hd5⟩:∃d,decide (fa.drop 1=ga.drop 1)=d:=⟨_,rfl⟩
       have D5:=zH hd5;clear hd5;by_cases hj1:j0=1
       ·subst hj1;have HSfd:=zH (Vl HSfa.out hfp);by_cases hi1:i0=1
        ·subst hi1;have HSgd:=zH (Vl HSga.out hgp);have HNf:Hid ((fa.drop 1).length=0):=zH (by rw[XF];omega);have HNg:Hid ((ga.drop 1).length=0):=zH (by rw[XF];omega);exact q15
        ·have HSgd:=zH (Vt HSga.out hgp);have HNf:Hid ((fa.drop 1).length=0):=zH (by rw[XF];omega);have HNg:Hid ((ga.drop 1).length=ga.length - 1):=zH XF;exact q15
       ·have HSfd:=zH (Vt HSfa.out hfp);by_cases hi1:i0=1
        ·subst hi1;have HSgd:=zH (Vl HSga.out hgp);have HNf:Hid ((fa.drop 1).length=fa.length - 1):=zH XF;have HNg:Hid ((ga.drop 1).length=0):=zH (by rw[XF];omega);exact q15
        ·have HSgd:=zH (Vt HSga.out hgp);have HNf:Hid ((fa.drop 1).length=fa.length - 1):=zH XF;have HNg:Hid ((ga.drop 1).length=ga.length - 1):=zH XF;exact q15
    ·have SL:=zH (qc8 (c:=(i:Int)) (ab:=y.slots) (k:=k) (m:=m) (Nat.le_of_not_lt hnl));have E2:=zH (show qs m (i:Int) x=false by unfold qs;rw[HAB.out,HKK.out,SL.out];simp);go_upto_region 12 with fail
     go_quiet (fail)
     go_wp2_with fail
     go_ret;exact⟨by rw[E2.out];rfl,HW.out.trans ((qZ HX.out _).mono HZw.out)⟩
   ·have E2:=zH (show qs m (i:Int) x=true by unfold qs;rw[HAB.out,HK.out,List.drop_eq_nil_of_le (by omega),Xh c1,D1.out,HL.out,Xh c2,Xh c3];rfl);exact q16
 ·have hs1:x.sup<0:=by omega
  have HAY:=zH (show vu m x=[]from Xa hs0);obtain rfl:AB=[]:=HAB.out.symm.trans HAY.out;clear hs0;go_wp2_with(first|(go_at_call 53;(with_reducible refine(Qa HI HSf HX D1).mono ?_);rintro e w5 ⟨rfl,hb⟩;have HX:=zl HX hb;obtain⟨kq0,kq1,kq2,kq3,kq4,kq5,kq6⟩:=qt (HQ.out.keep HX.out HQZ.out);obtain⟨kc0,kc1,kc2⟩:=zM (HC.out.keep HX.out HCZ.out);clear hb)|(go_at_call 46;(with_reducible refine(VR HI HX HN HF HL).mono ?_);rintro e w5 ⟨A9,k9,rfl,hb⟩;have HX:=zl HX hb;obtain⟨kq0,kq1,kq2,kq3,kq4,kq5,kq6⟩:=qt (HQ.out.keep HX.out HQZ.out);obtain⟨kc0,kc1,kc2⟩:=zM (HC.out.keep HX.out HCZ.out);clear hb))
  go_loopw [7] (fun i' wr=>∃k:Nat,k≤x.slots.length∧i'= .int .i64 k∧Hid (vB m (i:Int) [] 0 x.slots=vB m (i:Int) [] k (x.slots.drop k))∧Hid (Below w1.heap.size w1 wr)) (fun i' _=>x.slots.length - (intOf i').toNat)
  case atStart=>exact⟨0,by omega,rfl,zH rfl,HX⟩
  case round=>
   clear HX kq0 kq1 kq2 kq3 kq4 kq5 kq6 kc0 kc1 kc2;obtain⟨k,hk,rfl,HK,HX⟩:=hrel;obtain⟨kq0,kq1,kq2,kq3,kq4,kq5,kq6⟩:=qt (HQ.out.keep HX.out HQZ.out);obtain⟨kc0,kc1,kc2⟩:=zM (HC.out.keep HX.out HCZ.out);by_cases hlt:k<x.slots.length
   ·obtain⟨ads,e2,habs,hcs⟩:=HSs.out.row.at_ hlt;have HKK:=zH (HK.out.trans (q3v hlt));have hs0:=HS0.out x HXM.out x.slots[k] (Xd hlt);have HE2:=zH e2;rw[e2]at kc2;rw[Xq]at hcs;have HCS:Hid (w1.cell? (ads.add k)=some (.int .i64 x.slots[k])):=zH hcs;have HBS:Hid ((ads.add k).block<w1.heap.size):=zH (by rw[zp];exact habs);generalize x.slots[k]=s at*
    obtain⟨n,rfl⟩:=Xm hs0;have ks:=(HX.out.cell HBS.out).trans HCS.out;clear e2 hcs habs hs0;by_cases hnl:n<m.methods.length
    ·obtain⟨adm,e3,habm,hcm⟩:=HI.out.methods.row.at_ hnl;have HME:=zH (Xc hnl);generalize m.methods[n]=f at*
     obtain⟨fa,fl,⟨fr0,fr1⟩,fc,fd,fp,fh⟩:=f;obtain⟨⟨A0f,j0,f0,hf0⟩,⟨A1f,j1,f1,_⟩,f2,f3,⟨A4f,j4,f4,_⟩,f5,f6,⟨A7f,j7,f7,_⟩⟩:=hcm;dsimp only at f0 f1 f2 f3 f4 f5 f6 f7 hf0;have hPm:(adm.add (n*8)).block<w1.heap.size:=by rw[zp];exact habm
     have HSfa:=zH hf0;have hj0:=hf0.le;have hj0c:=hf0.cap;go_upto_region 12 with fail
     rw[e3]at kq3;go_quiet (fail)
     go_upto_region 14 with fail
     have HX:=zH (qZ HX.out nq);generalize wr.drewN nq=wd at*
     clear kq0 kq1 kq2 kq3 kq4 kq5 kq6 kc0 kc1 kc2 ks;obtain⟨kq0,kq1,kq2,kq3,kq4,kq5,kq6⟩:=qt (HQ.out.keep HX.out HQZ.out);obtain⟨kc0,kc1,kc2⟩:=zM (HC.out.keep HX.out HCZ.out);rw[e3]at kq3;rw[HE2.out]at kc2;have ks:=(HX.out.cell HBS.out).trans HCS.out;have f0:=(HX.out.cell hPm).trans f0;have f1:=(HX.out.cell (p:=zc (adm.add (n*8)) 1) hPm).trans f1;have f2:=(HX.out.cell (p:=zc (adm.add (n*8)) 2) hPm).trans f2;have f3:=(HX.out.cell (p:=zc (adm.add (n*8)) 3) hPm).trans f3;have f4:=(HX.out.cell (p:=zc (adm.add (n*8)) 4) hPm).trans f4;have f5:=(HX.out.cell (p:=zc (adm.add (n*8)) 5) hPm).trans f5;have f6:=(HX.out.cell (p:=zc (adm.add (n*8)) 6) hPm).trans f6;have f7:=(HX.out.cell (p:=zc (adm.add (n*8)) 7) hPm).trans f7;have e1:=World.new_ne wd _ kq3;have e2:=World.new_ne wd _ kc2;have e4:=World.new_ne wd _ ks;have e5:=World.new_ne wd _ f0;clear e3;go_region_held3 (fun w'=>w'.cell? ⟨w.heap.size,3,none⟩=some (.slice (some adm) m.methods.length h.c3)∧w'.cell? ⟨w.heap.size+1,2,none⟩=some (.slice (some ads) x.slots.length k2)∧w'.cell? (ads.add k)=some (.int .i64 (n:Int))∧w'.cell? (adm.add (n*8))=some (.slice A0f fa.length j0)∧w'.cell? (zc (adm.add (n*8)) 1)=some (.slice A1f fl.length j1)∧w'.cell? (zc (adm.add (n*8)) 2)=some (.int .i64 fr0)∧w'.cell? (zc (adm.add (n*8)) 3)=some (.int .i64 fr1)∧w'.cell? (zc (adm.add (n*8)) 4)=some (.slice A4f fc.length j4)∧w'.cell? (zc (adm.add (n*8)) 5)=some (.int .i64 fd)∧w'.cell? (zc (adm.add (n*8)) 6)=some (.int .i64 fp)∧w'.cell? (zc (adm.add (n*8)) 7)=some (.slice A7f fh.length j7)) (go_keep) (first|fail)
     go_upto_region 15 with fail
     have HFB:=zH (qa wd [.slice A0f fa.length j0,.slice A1f fl.length j1,.int .i64 fr0,.int .i64 fr1,.slice A4f fc.length j4,.int .i64 fd,.int .i64 fp,.slice A7f fh.length j7] 53);have HX:=zH (HX.out.alloc HX.out.size (.cells ([.slice A0f fa.length j0,.slice A1f fl.length j1,.int .i64 fr0,.int .i64 fr1,.slice A4f fc.length j4,.int .i64 fd,.int .i64 fp,.slice A7f fh.length j7]:List Value).toArray 53)).drew;clear kq0 kq1 kq2 kq3 kq4 kq5 kq6 kc0 kc1 kc2 ks f0 f1 f2 f3 f4 f5 f6 f7 e1 e2 e4 e5;have HFB:Hid (zW (wd.alloc (.cells ([.slice A0f fa.length j0,.slice A1f fl.length j1,.int .i64 fr0,.int .i64 fr1,.slice A4f fc.length j4,.int .i64 fd,.int .i64 fp,.slice A7f fh.length j7]:List Value).toArray 53)).drew wd.heap.size [.slice A0f fa.length j0,.slice A1f fl.length j1,.int .i64 fr0,.int .i64 fr1,.slice A4f fc.length j4,.int .i64 fd,.int .i64 fp,.slice A7f fh.length j7]):=HFB;generalize(wd.alloc (.cells ([.slice A0f fa.length j0,.slice A1f fl.length j1,.int .i64 fr0,.int .i64 fr1,.slice A4f fc.length j4,.int .i64 fd,.int .i64 fp,.slice A7f fh.length j7]:List Value).toArray 53)).drew=w2 at*
     generalize wd.heap.size=gf at*
     have HFBZ:Hid (gf<w2.heap.size):=zH (World.block_lt_of_cell? w2 _ (HFB.out 0 _ rfl));obtain⟨kq0,kq1,kq2,kq3,kq4,kq5,kq6⟩:=qt (HQ.out.keep HX.out HQZ.out);obtain⟨kc0,kc1,kc2⟩:=zM (HC.out.keep HX.out HCZ.out);have hb0:=HFB.out 0 _ rfl;by_cases hfa0:fa.length=0
     ·have SL:=zH (qc9 (c:=(i:Int)) (ab:=[]) (k:=k) HME.out (XZ hfa0));exact q7d
     ·have hfp:0<fa.length:=by omega
      have ht0:((fa.length:Int)==0)=false:=XK.mpr (by omega);have HFT:=zH (show fa=fa[0]::fa.drop 1 from Wr hfp);obtain⟨adt,rfl,habt,r0,r1⟩:=HSfa.out.row.at_ hfp;clear hfa0;generalize fa[0]=t at*
      obtain⟨t0,t1⟩:=t;rw[Nat.zero_mul,show adt.add 0=adt by simp[Addr.add]]at r0 r1;have HR2:Hid (∀W,Below w1.heap.size w1 W→W.cell? adt=some (.int .i64 t0)∧W.cell? (zc adt 1)=some (.int .i64 t1)):=zH (fun W hW=>zh.keeps (x:=(t0,t1)) ⟨r0,r1⟩ habt (zn _) (fun _ hq=>hW.cell hq));obtain⟨r0,r1⟩:=HR2.out _ HX.out;have HXd:=zH HX.out.drew;have HB2d:Hid (Below w2.heap.size w2 w2.drew):=zH (zb _ _).drew;obtain⟨d4,hd4⟩:∃d,zw (zt m.classes) 3 (i:Int) t0 t1=d:=⟨_,rfl⟩
      have D4:=zH hd4;clear hd4 habt;cases d4
      ·have SL:=zH (qc7 (c:=(i:Int)) (ab:=[]) (k:=k) HME.out HFT.out D4.out);exact q7e
      ·go_region_held3 (fun w'=>w'.cell? ⟨w.heap.size,0,none⟩=some (.slice h.A0 m.classes.length h.c0)∧w'.cell? ⟨gf,0,none⟩=some (.slice (some adt) fa.length j0)∧w'.cell? adt=some (.int .i64 t0)∧w'.cell? (zc adt 1)=some (.int .i64 t1)) (first|exact⟨kq0,hb0,r0,r1⟩) (first|(go_at_call 98;(with_reducible refine(q6d HI HXd HN D4).mono ?_);rintro e w3 ⟨rfl,hb⟩;have HX:=zl HXd hb;have HB23:=zl HB2d hb;obtain⟨kq0,kq1,kq2,kq3,kq4,kq5,kq6⟩:=qt (HQ.out.keep HX.out HQZ.out);obtain⟨kc0,kc1,kc2⟩:=zM (HC.out.keep HX.out HCZ.out);have hb0:=(HFB.out.keep HB23.out HFBZ.out) 0 _ rfl;obtain⟨r0,r1⟩:=HR2.out _ HX.out;clear hb))
       have SL:=zH (q4l (c:=(i:Int)) (ab:=[]) (k:=k) HME.out HFT.out D4.out (Xl _));have HK2:=zH (HKK.out.trans (by rw[SL.out,Bool.true_and]));exact q3b
    ·have SL:=zH (qc8 (c:=(i:Int)) (ab:=[]) (k:=k) (m:=m) (Nat.le_of_not_lt hnl));have E2:=zH (show qs m (i:Int) x=false by unfold qs;rw[HAB.out,HKK.out,SL.out];simp);go_upto_region 12 with fail
     go_quiet (fail)
     go_wp2_with fail
     go_ret;exact⟨by rw[E2.out];rfl,HW.out.trans ((qZ HX.out _).mono HZw.out)⟩
   ·have E2:=zH (show qs m (i:Int) x=true by unfold qs;rw[HAB.out,HK.out,List.drop_eq_nil_of_le (by omega),Xh c1,D1.out,HL.out,Xh c2,Xh (show([]:List Int).length≤x.slots.length from Xl _)];rfl);exact q16
end Go.Proofs.YtcmiljnbmgkdnaaGreat
