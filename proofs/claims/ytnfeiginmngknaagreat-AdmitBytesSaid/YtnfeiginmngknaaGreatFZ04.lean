import Derived.Test.YtnfeiginmngknaaGreatFZ03
namespace Go.Proofs.YtnfeiginmngknaaGreat
set_option maxRecDepth 100000
set_option linter.unusedVariables false
set_option linter.unusedSimpArgs false
open Go.ChangeShapes Go.WideShapes Go.ChangeAt Go.RowKit
def mJ(cl:List zW)(a:Int):Int:=match cl[a.toNat]? with
 |some c=>c.slots.length
 |none=>0
def zK(m:za)(x:zl)(op a b:Int):Bool:=
 if op=1 then decide (a<m.ints.length)else
 if op=3\/op=4 then decide (a<x.args.length+x.locals.length)else
 if op=18\/op=19 then decide (a<x.code.length)else
 if op=22\/op=34 then decide (a<m.classes.length)else
 if op=27\/op=28 then decide (a<m.classes.length)&& decide (b<(qg m.classes a).length)else
 if op=29\/op=30 then decide (a<m.statics.length)else
 if op=31 then decide (a<m.methods.length)else
 if op=32 then decide (a<m.classes.length)&& decide (b<mJ m.classes a)else true
theorem PN(w:World)(vs us ts:List Value)(T U V:TypeId):
  zQ (((w.alloc (.cells vs.toArray T)).alloc (.cells us.toArray U)).alloc (.cells ts.toArray V)) w.heap.size vs/\
  zQ (((w.alloc (.cells vs.toArray T)).alloc (.cells us.toArray U)).alloc (.cells ts.toArray V)) (w.heap.size+1) us/\
  zQ (((w.alloc (.cells vs.toArray T)).alloc (.cells us.toArray U)).alloc (.cells ts.toArray V)) (w.heap.size+1+1) ts/\
  Below w.heap.size w (((w.alloc (.cells vs.toArray T)).alloc (.cells us.toArray U)).alloc (.cells ts.toArray V))/\
  (((w.alloc (.cells vs.toArray T)).alloc (.cells us.toArray U)).alloc (.cells ts.toArray V)).heap.size=w.heap.size+3:=by
 have z1:(w.alloc (.cells vs.toArray T)).heap.size=w.heap.size+1:=by simp
 have z2:((w.alloc (.cells vs.toArray T)).alloc (.cells us.toArray U)).heap.size=w.heap.size+2:=by simp
 have z3:(((w.alloc (.cells vs.toArray T)).alloc (.cells us.toArray U)).alloc (.cells ts.toArray V)).heap.size=w.heap.size+3:=by simp
 have b3:Below (w.heap.size+2) ((w.alloc (.cells vs.toArray T)).alloc (.cells us.toArray U)) (((w.alloc (.cells vs.toArray T)).alloc (.cells us.toArray U)).alloc (.cells ts.toArray V)):=(zb _ _).alloc (by omega) _;have b2:Below (w.heap.size+1) (w.alloc (.cells vs.toArray T)) (((w.alloc (.cells vs.toArray T)).alloc (.cells us.toArray U)).alloc (.cells ts.toArray V)):=((zb _ _).alloc (by omega) _).trans (b3.mono (by omega));have h1:=qr w vs T;have h2:=qr (w.alloc (.cells vs.toArray T)) us U;have h3:=qr ((w.alloc (.cells vs.toArray T)).alloc (.cells us.toArray U)) ts V;rw[z1]at h2;rw[z2]at h3;exact⟨h1.keep b2 (by omega),h2.keep b3 (by omega),h3,(zk).trans (b2.mono (by omega)),z3⟩
abbrev kF(h:zh)(m:za):List Value:=
 [.slice h.A0 m.classes.length h.c0,.slice h.A1 m.statics.length h.c1,.slice h.A2 m.ints.length h.c2,.slice h.A3 m.methods.length h.c3,.slice h.A4 m.entries.length h.c4,.int .i64 m.stack,.int .i64 m.heap]
theorem Dv{m:za}{c:Int}{h:zh}{w w0:World}{L:List (Int×Int)}(HI:Hid (zr w0 w0.heap.size h m))(HX:Hid (Below w0.heap.size w0 w))(HN:Hid (m.classes.length<=1000))(HF:Hid (∀x ∈m.classes,x.fields.length<=1000))(HL:Hid (qg m.classes c=L)):
  Calls Tryz.prog 41 #[zv h m,.int .i64 c] w fun e w'=>∃A k,e= .returned (.slice A L.length k)/\Below w.heap.size w w':=by
 refine(PT m c h w (HI.out.now HX.out) HN.out HF.out).mono ?_;rw[HL.out];rintro e w' ⟨v,rfl,ho,hb⟩
 grind [Yq]
theorem Pw{P:Prop}(h:P:=by
 go_upto_region 15 with fail
 have qf:Hid (Below w1.heap.size w1 w1.drew):=zH (zb _ _).drew;go_region_held3 (fun w'=>w'.cell? ⟨w.heap.size+1+1,1,none⟩=some (.int .i64 a)/\w'.cell? ⟨w.heap.size+1+1,2,none⟩=some (.int .i64 b)/\w'.cell? ⟨w.heap.size,0,none⟩=some (.slice h.A0 m.classes.length h.c0)/\w'.cell? ⟨w.heap.size,1,none⟩=some (.slice h.A1 m.statics.length h.c1)/\w'.cell? ⟨w.heap.size,2,none⟩=some (.slice h.A2 m.ints.length h.c2)/\w'.cell? ⟨w.heap.size,3,none⟩=some (.slice h.A3 m.methods.length h.c3)/\w'.cell? ⟨w.heap.size,4,none⟩=some (.slice h.A4 m.entries.length h.c4)/\w'.cell? ⟨w.heap.size,5,none⟩=some (.int .i64 m.stack)/\w'.cell? ⟨w.heap.size,6,none⟩=some (.int .i64 m.heap)) (first|exact⟨a1,a2,q0,q1,q2,q3,q4,q5,q6⟩)
  (first|(go_at_call 41;(with_reducible refine(Dv HI qf HN HF HL).mono ?_);rintro e w3 ⟨A,k,rfl,hb⟩;have zp:=zi qf hb;have HQ:=zH (HQ.out.keep zp.out (by have:=HZ.out;omega));have HC:=zH (HC.out.keep zp.out (by have:=HZ.out;omega));have a1:=HC.out 1 _ rfl;have a2:=HC.out 2 _ rfl;obtain⟨q0,q1,q2,q3,q4,q5,q6⟩:=ck7 HQ.out;clear hb))
 go_wp2_with fail
 go_ret;exact⟨by rw[E2.out];rfl,HW.out.trans (zp.out.mono (by have:=HZ.out;omega))⟩):P:=h
set_option maxHeartbeats 3200000 in
theorem q6r(m:za)(x:zl)(op a b:Int)(h:zh)(hx:qH)(w:World)(H:zr w w.heap.size h m)(HM:jR w w.heap.size hx x)(h0:0<=a)(hn:m.classes.length<=1000)(hf:∀x ∈m.classes,x.fields.length<=1000)(ha:x.args.length<=1000)(hl:x.locals.length<=1000):
  Calls Tryz.prog 92 #[zv h m,ZD hx x,qt op a b] w fun e w'=>e= .returned (.bool (zK m x op a b))/\Below w.heap.size w w':=by
 obtain⟨hq,hp,hc,hb,hz⟩:=PN w (kF h m) (qj hx x) [.int .i64 op,.int .i64 a,.int .i64 b] 29 48 50;have HQ:=zH hq;have HP:=zH hp;have HC:=zH hc;have HW:=zH hb;have HZ:=zH hz;have HI:=zH (H.now hb);have HF:=zH hf;have HN:=zH hn;have l2:=H.ints.le;have l2c:=H.ints.cap;have l3:=H.methods.le;have bz:=H.methods.cap;have l4:=HM.code.le;have l4c:=HM.code.cap;clear hq hp hc hb hz hf H HM;go_enter Tryz.func92,Tryz.ntmps92;go_upto_region 1 with fail
 generalize((w.alloc (.cells (kF h m).toArray 29)).alloc (.cells (qj hx x).toArray 48)).alloc (.cells [Value.int .i64 op,.int .i64 a,.int .i64 b].toArray 50)=w1 at*
 obtain⟨q0,q1,q2,q3,q4,q5,q6⟩:=ck7 HQ.out;obtain⟨p0,p1,p2,p3,p4,p5,p6,p7⟩:=qp HP.out;obtain⟨a0,a1,a2⟩:=qv HC.out;by_cases o1:op=1
 ·subst o1;have E:=zH (show zK m x 1 a b=decide (a<m.ints.length)from rfl);go_wp2_with fail
  go_ret;exact⟨by rw[E.out];rfl,HW.out⟩
 by_cases o3:op=3
 ·subst o3;have E:=zH (show zK m x 3 a b=decide (a<x.args.length+x.locals.length)from rfl);go_wp2_with fail
  go_ret;exact⟨by rw[E.out];rfl,HW.out⟩
 by_cases o4:op=4
 ·subst o4;have E:=zH (show zK m x 4 a b=decide (a<x.args.length+x.locals.length)from rfl);go_wp2_with fail
  go_ret;exact⟨by rw[E.out];rfl,HW.out⟩
 by_cases Cc:op=18
 ·subst Cc;have E:=zH (show zK m x 18 a b=decide (a<x.code.length)from rfl);go_wp2_with fail
  go_ret;exact⟨by rw[E.out];rfl,HW.out⟩
 by_cases CO:op=19
 ·subst CO;have E:=zH (show zK m x 19 a b=decide (a<x.code.length)from rfl);go_wp2_with fail
  go_ret;exact⟨by rw[E.out];rfl,HW.out⟩
 by_cases BC:op=22
 ·subst BC;have E:=zH (show zK m x 22 a b=decide (a<m.classes.length)from rfl);go_wp2_with fail
  go_ret;exact⟨by rw[E.out];rfl,HW.out⟩
 by_cases Ch:op=34
 ·subst Ch;have E:=zH (show zK m x 34 a b=decide (a<m.classes.length)from rfl);go_wp2_with fail
  go_ret;exact⟨by rw[E.out];rfl,HW.out⟩
 by_cases Bp:op=29
 ·subst Bp;have E:=zH (show zK m x 29 a b=decide (a<m.statics.length)from rfl);go_wp2_with fail
  go_ret;exact⟨by rw[E.out];rfl,HW.out⟩
 by_cases CK:op=30
 ·subst CK;have E:=zH (show zK m x 30 a b=decide (a<m.statics.length)from rfl);go_wp2_with fail
  go_ret;exact⟨by rw[E.out];rfl,HW.out⟩
 by_cases Cg:op=31
 ·subst Cg;have E:=zH (show zK m x 31 a b=decide (a<m.methods.length)from rfl);go_wp2_with fail
  go_ret;exact⟨by rw[E.out];rfl,HW.out⟩
 by_cases Cv:op=27
 ·subst Cv;have E:=zH (show zK m x 27 a b=(decide (a<m.classes.length)&& decide (b<(qg m.classes a).length))from rfl);obtain⟨L,hL⟩:=zj (qg m.classes a);rw[hL]at E;have HL:=zH hL;clear hL;by_cases hlt:a<(m.classes.length:Int)
  ·have E2:=zH (show zK m x 27 a b=decide (b<(L.length:Int))by rw[E.out,Xi hlt];rfl);exact Pw
  ·have E2:=zH (show zK m x 27 a b=false by rw[E.out,Xf hlt];rfl);have hd:decide (a<(m.classes.length:Int))=false:=Xf hlt;go_upto_region 15 with fail
   go_quiet (fail)
   go_wp2_with fail
   go_ret;exact⟨by rw[E2.out];rfl,jf HW.out _⟩
 by_cases C9:op=28
 ·subst C9;have E:=zH (show zK m x 28 a b=(decide (a<m.classes.length)&& decide (b<(qg m.classes a).length))from rfl);obtain⟨L,hL⟩:=zj (qg m.classes a);rw[hL]at E;have HL:=zH hL;clear hL;by_cases hlt:a<(m.classes.length:Int)
  ·have E2:=zH (show zK m x 28 a b=decide (b<(L.length:Int))by rw[E.out,Xi hlt];rfl);exact Pw
  ·have E2:=zH (show zK m x 28 a b=false by rw[E.out,Xf hlt];rfl);have hd:decide (a<(m.classes.length:Int))=false:=Xf hlt;go_upto_region 15 with fail
   go_quiet (fail)
   go_wp2_with fail
   go_ret;exact⟨by rw[E2.out];rfl,jf HW.out _⟩
 by_cases o32:op=32
 ·subst o32;have E:=zH (show zK m x 32 a b=(decide (a<m.classes.length)&& decide (b<mJ m.classes a))from rfl);by_cases hlt:a<(m.classes.length:Int)
  ·obtain⟨n,rfl⟩:=Xj h0;have hnl:n<m.classes.length:=by omega
   obtain⟨Vj,e0,hab,hcl⟩:=HI.out.classes.row.at_ hnl;have jS:=zH (show mJ m.classes (n:Int)=(m.classes[n].slots.length:Int)by unfold mJ;rw[Xo,Xc hnl]);generalize m.classes[n]=c at*
   obtain⟨_,_,⟨A2,k2,s2,hs2⟩⟩:=hcl;rw[e0]at q0;have E2:=zH (show zK m x 32 (n:Int) b=decide (b<(c.slots.length:Int))by rw[E.out,jS.out,Xi hlt];rfl);clear e0 hs2 jS;go_upto_region 22 with fail
   go_quiet (fail)
   go_wp2_with fail
   go_ret;exact⟨by rw[E2.out];rfl,jf HW.out _⟩
  ·have E2:=zH (show zK m x 32 a b=false by rw[E.out,Xf hlt];rfl);have hd:decide (a<(m.classes.length:Int))=false:=Xf hlt;go_upto_region 22 with fail
   go_quiet (fail)
   go_wp2_with fail
   go_ret;exact⟨by rw[E2.out];rfl,jf HW.out _⟩
 have E:=zH (show zK m x op a b=true by unfold zK;simp[o1,o3,o4,Cc,CO,BC,Ch,Cv,C9,Bp,CK,Cg,o32]);go_wp2_with fail
 go_ret;exact⟨by rw[E.out];rfl,HW.out⟩
theorem Sb{w:World}{B c n:Nat}{ad:Addr}{L:List (Int×Int)}(h:zd zf 2 w B (some ad) c L)(hn:n<=L.length):zd zf 2 w B (some (ad.add (n*2))) (c - n) (L.drop n):=by
 refine⟨by have:=h.le;grind,by have:=h.cap;omega,fun i t hi=> ?_⟩;rw[List.getElem?_drop]at hi;obtain⟨ad',e,hb,ht⟩:=h.row (n+i) t hi
 grind [zC,uK,Nat.add_mul]
theorem uV{w:World}{B c:Nat}{A:Option Addr}{L:List (Int×Int)}(hL:L=[])(hc:c<=9223372036854775807):zd zf 2 w B A c L:=by
 subst hL;exact⟨Xn _,hc,qD.nil⟩
theorem q5a(m:za)(f:Nat)(x:zl)(hal:0<x.args.length)(h:zh)(w:World)(H:zr w w.heap.size h m)(hx:m.methods[f]? =some x):
  Calls Tryz.prog 172 #[zv h m,.int .i64 f] w (Ys (x.args.drop 1) w):=by
 have HW:=zH (zk (w:=w) (o:=(ze h m)));have HI:=zH (H.now HW.out);have HBX:=zH (qd w h m);have kL:=zH hx;have hdl:(x.args.drop 1).length=x.args.length - 1:=XK;have bD:=zH hdl;clear H hx hdl;go_enter Tryz.func172,Tryz.ntmps172;go_upto_region 1 with fail
 generalize w.alloc (ze h m)=w1 at*
 obtain⟨q0,q1,q2,q3,q4,q5,q6⟩:=HBX.out;have HX0:=qP w1;go_upto_region 2 with(go_at_call 171;(with_reducible refine(WF HI HX0 kL.out).mono ?_);rintro e w2 ⟨A,c,rfl,hs,hb⟩;have HS2:=zH hs;have HB2:=zH hb;clear hs hb)
 obtain⟨ad,rfl,hab,_⟩:=HS2.out.row.at_ (i:=0) hal;have hle:=HS2.out.le;have hcap:=HS2.out.cap;have hgt:(x.args.length:Int)>0:=by omega
 have hb1:(1:Int)<=(x.args.length:Int):=by omega
 have hb2:(x.args.length:Int)<=(c:Int):=by omega
 by_cases hc1:c=1
 ·subst hc1;go_wp2_with fail
  go_ret;exact⟨some ad,0,by rw[show(x.args.drop 1).length=0 by rw[bD.out];omega];rfl,uV (Wp (by rw[bD.out];omega)) (by omega),zD HW HB2⟩
 ·go_wp2_with fail
  go_ret;exact⟨some (ad.add (1*2)),c - 1,by rw[bD.out];rfl,Sb (n:=1) HS2.out hal,zD HW HB2⟩
theorem yO{w:World}{A:Option Addr}{c:Nat}{L:List (Int×Int)}(h:zd zf 2 w w.heap.size A c L)(o:Obj):zd zf 2 (w.alloc o) (w.alloc o).heap.size A c L:=
 (h.below_to zf.keeps ((zb _ _).alloc (zn _) o) (zn _)).keep' zf.keeps (by simp) (fun _ _=>rfl)
theorem q8m{m:za}{h:zh}{w0 w:World}{f:Nat}{x:zl}(HI:Hid (zr w0 w0.heap.size h m))(HX:Hid (Below w0.heap.size w0 w))(hx:m.methods[f]? =some x)(hal:0<x.args.length):
  Calls Tryz.prog 172 #[zv h m,.int .i64 f] w (Ys (x.args.drop 1) w):=q5a m f x hal h w (HI.out.now HX.out) hx
theorem Sy{m:za}{h:zh}{w0 w:World}{c:Int}{L:List (Int×Int)}(HI:Hid (zr w0 w0.heap.size h m))(HX:Hid (Below w0.heap.size w0 w))(HL:Hid (qg m.classes c=L))(hn:m.classes.length<=1000)(HF:Hid (∀x ∈m.classes,x.fields.length<=1000)):
  Calls Tryz.prog 193 #[zv h m,.int .i64 c] w (eO L w):=by
 have H:=Q9 m c h w (HI.out.now HX.out) hn HF.out;rw[HL.out]at H;exact H
set_option maxHeartbeats 1600000 in
theorem q8v(m:za)(op a:Int)(k:Nat)(t:Int×Int)(hk:(qg m.classes a)[k]? =some t)(hn:m.classes.length<=1000)(hf:∀x ∈m.classes,x.fields.length<=1000)(h:zh)(w:World)(H:zr w w.heap.size h m):
  Calls Tryz.prog 169 #[zv h m,qt op a (k:Int)] w fun e w'=>e= .returned (zF t.1 t.2)/\Below w.heap.size w w':=by
 obtain⟨L,hL⟩:=zj (qg m.classes a);have HL:=zH hL;rw[hL]at hk;have HF:=zH hf;have HK:=zH hk;obtain⟨hw,hp⟩:=Iu h m op a (k:Int) w;have HW:=zH hw;have HP:=zH hp;have HI:=zH (H.now hw);clear hw hp H hk hL hf;go_enter Tryz.func169,Tryz.ntmps169;go_upto_region 1 with fail
 change Code.wp _ _ _ _ (mI h m op a (k:Int) w);generalize mI h m op a (k:Int) w=w1 at*
 have HX:Hid (Below w1.heap.size w1 w1.drew):=zH (zb w1.heap.size w1).drew;have dB:Hid (Below w1.heap.size w1 (w1.alloc (.cells #[.int .i64 0,.int .i64 0] 45)).drew):=zH (zk (w:=w1)).drew;have jC:Hid (∀W,Below w1.heap.size w1 W->(fun w'=>I7h w.heap.size h m w' (w'.cell? ⟨w.heap.size+1,1,none⟩=some (.int .i64 a)/\w'.cell? ⟨w.heap.size+1,2,none⟩=some (.int .i64 (k:Int)))) W):=zH (fun W hW=>by
  have hz:=HP.out.size;obtain⟨d0,d1,d2,d3,d4,d5,d6⟩:=HP.out.img.keep hW (by omega);have di:=HP.out.ins.keep hW (by omega);exact⟨d0,d1,d2,d3,d4,d5,d6,di 1 _ rfl,di 2 _ rfl⟩)
 go_region_held3 (fun w'=>I7h w.heap.size h m w' (w'.cell? ⟨w.heap.size+1,1,none⟩=some (.int .i64 a)/\w'.cell? ⟨w.heap.size+1,2,none⟩=some (.int .i64 (k:Int)))) (first|exact jC.out _ HX.out|exact jC.out _ dB.out|exact jC.out _ HX4.out|exact jC.out _ zp.out|exact jC.out _ (zp.out.alloc zp.out.size _)|exact jC.out _ (HX4.out.alloc HX4.out.size _)|exact jC.out _ ((HX4.out.setCell (p:=⟨w1.heap.size,0,none⟩) (zn _) _).setCell (p:=⟨w1.heap.size,1,none⟩) (zn _) _)|exact jC.out _ ((HX4.out.setCell (p:=⟨w3.heap.size,0,none⟩) zp.out.size _).setCell (p:=⟨w3.heap.size,1,none⟩) zp.out.size _)) (first
  |(go_at_call 193;(first|((with_reducible refine(Sy HI HX HL hn HF).mono ?_);have HY:=HX)|((with_reducible refine(Sy HI dB HL hn HF).mono ?_);have HY:=dB));rintro e w3 ⟨v3,rfl,ho,hb⟩;(first|(have HQA:=zH (zm.keep (show zm (w1.alloc (.cells #[.int .i64 0,.int .i64 0] 45)).drew w1.heap.size [.int .i64 0,.int .i64 0] 45 from zm.new w1 _ _) hb (by simp)))|skip);obtain⟨A3,c3,rfl,hs,_⟩:=Yq ho;have HZ3:=zH hb;have zp:=zi HY hb;have jM:=zH hs;clear ho hb hs)
  |(go_at_call 192;(first|((with_reducible refine(KM jM.out HK.out).mono ?_);have bu:=zp)|((with_reducible refine(KM (yO jM.out _) HK.out).mono ?_);have bu:=zH (zp.out.alloc zp.out.size (.cells #[.int .i64 0,.int .i64 0] 45))));rintro e w4 ⟨rfl,hb⟩;have HZ4:=zH hb;have HX4:=zi bu hb;(first|(have hq:=HQA.out.keep hb HQA.out.lt)|(have hq:=(zm.new w3 [.int .i64 0,.int .i64 0] 45).keep hb (by simp))|(have hq:=Xs));(first|(have f0:=hq.free 0;have f1:=hq.free 1;have r0:=hq.cells 0 _ rfl;have r1:=hq.cells 1 _ rfl)|skip);have Vr:=zH hq;clear hq hb))
 all_goals
  first
   |(have YG:Hid (zm ((w4.setCell ⟨w1.heap.size,0,none⟩ (.int .i64 t.1)).setCell ⟨w1.heap.size,1,none⟩ (.int .i64 t.2)) w1.heap.size [.int .i64 t.1,.int .i64 t.2] 45):=zH ((Vr.out.set 0 (.int .i64 t.1)).set 1 (.int .i64 t.2));have kh:Hid (Below w1.heap.size w1 ((w4.setCell ⟨w1.heap.size,0,none⟩ (.int .i64 t.1)).setCell ⟨w1.heap.size,1,none⟩ (.int .i64 t.2))):=zH ((HX4.out.setCell (p:=⟨w1.heap.size,0,none⟩) (zn _) (.int .i64 t.1)).setCell (p:=⟨w1.heap.size,1,none⟩) (zn _) (.int .i64 t.2));generalize((w4.setCell ⟨w1.heap.size,0,none⟩ (.int .i64 t.1)).setCell ⟨w1.heap.size,1,none⟩ (.int .i64 t.2))=w5 at*)
   |(have YG:Hid (zm ((w4.setCell ⟨w3.heap.size,0,none⟩ (.int .i64 t.1)).setCell ⟨w3.heap.size,1,none⟩ (.int .i64 t.2)) w3.heap.size [.int .i64 t.1,.int .i64 t.2] 45):=zH ((Vr.out.set 0 (.int .i64 t.1)).set 1 (.int .i64 t.2));have kh:Hid (Below w1.heap.size w1 ((w4.setCell ⟨w3.heap.size,0,none⟩ (.int .i64 t.1)).setCell ⟨w3.heap.size,1,none⟩ (.int .i64 t.2))):=zH ((HX4.out.setCell (p:=⟨w3.heap.size,0,none⟩) zp.out.size (.int .i64 t.1)).setCell (p:=⟨w3.heap.size,1,none⟩) zp.out.size (.int .i64 t.2));generalize((w4.setCell ⟨w3.heap.size,0,none⟩ (.int .i64 t.1)).setCell ⟨w3.heap.size,1,none⟩ (.int .i64 t.2))=w5 at*)
   |(have YG:=zH (zm.new w4 [.int .i64 t.1,.int .i64 t.2] 45);have kh:Hid (Below w1.heap.size w1 (w4.alloc (.cells #[.int .i64 t.1,.int .i64 t.2] 45))):=zH (HX4.out.alloc HX4.out.size _);change Exit.then _ _ _ _ (w4.alloc (.cells #[.int .i64 t.1,.int .i64 t.2] 45));generalize w4.alloc (.cells #[.int .i64 t.1,.int .i64 t.2] 45)=w5 at*)
  have c0:=YG.out.cells 0 _ rfl;have c1:=YG.out.cells 1 _ rfl;have hq:=HP.out.res.keep kh.out HP.out.res.lt;have f0:=hq.free 0;have f1:=hq.free 1;have r0:=hq.cells 0 _ rfl;have r1:=hq.cells 1 _ rfl;clear hq;go_wp2_with fail
  obtain⟨d0,d1,db⟩:=Lv (x:=t.1) (y:=t.2) HW.out kh.out HP.out.res.lt HP.out.res;exact Xk (v:=zF t.1 t.2) (by simp[results,Tryz.results169,go_sem,d0,d1]) rfl ⟨rfl,db⟩
theorem Uj{m:za}{h:zh}{w0 w:World}{op a:Int}{k:Nat}{t:Int×Int}(HI:Hid (zr w0 w0.heap.size h m))(HX:Hid (Below w0.heap.size w0 w))(HK:Hid ((qg m.classes a)[k]? =some t))(hn:m.classes.length<=1000)(HF:Hid (∀x ∈m.classes,x.fields.length<=1000)):
  Calls Tryz.prog 169 #[zv h m,qt op a (k:Int)] w fun e w'=>e= .returned (zF t.1 t.2)/\Below w.heap.size w w':=q8v m op a k t HK.out hn HF.out h w (HI.out.now HX.out)
theorem zip_at{L U:List (Int×Int)}{k:Nat}(h:k<L.length)(h':k<U.length):∃hz:k<(L.zip U).length,(L.zip U)[k]=(L[k],U[k]):=⟨by rw[List.length_zip];omega,by simp⟩
theorem SY{w w':World}{A:Option Addr}{sup:List Int}(h:jh w w.heap.size A sup)(hb:Below w.heap.size w w'):jh w' w'.heap.size A sup:=fun i s hs=>by
 obtain⟨ad,e,hlt,hc⟩:=h i s hs;exact⟨ad,e,Xp hlt hb.size,(hb.cell (by rw[zC];omega)).trans hc⟩
theorem WE{sup:List Int}{t u:Int×Int}{A:Option Addr}{c N:Nat}{w0 w:World}{r:Bool}(hl:sup.length<=1048576)(HS:Hid (jh w0 w0.heap.size A sup))(HN:Hid (N<w0.heap.size))(HC:Hid (w0.cell? ⟨N,0,none⟩=some (.slice A sup.length c)))(HX:Hid (Below w0.heap.size w0 w))(HR:Hid (kZ sup t u=r)):
  Calls Tryz.prog 177 #[zF t.1 t.2,zF u.1 u.2,.pointer (some ⟨N,0,none⟩)] w fun e w'=>e= .returned (.bool r)/\Below w.heap.size w w':=by
 have H:=qdx sup t.1 t.2 u.1 u.2 A c N w hl (SY HS.out HX.out) (Xp HN.out HX.out.size) ((HX.out.cell (p:=⟨N,0,none⟩) HN.out).trans HC.out);rw[HR.out]at H;exact H
set_option maxHeartbeats 3200000 in
theorem q8w(sup:List Int)(L U:List (Int×Int))(A A' Vs:Option Addr)(c c' c'' N:Nat)(w:World)(hl:sup.length<=1048576)(hS:jh w w.heap.size Vs sup)(hN:N<w.heap.size)(hc:w.cell? ⟨N,0,none⟩=some (.slice Vs sup.length c''))
  (h:zd zf 2 w w.heap.size A c L) (h':zd zf 2 w w.heap.size A' c' U):
  Calls Tryz.prog 176 #[.slice A L.length c,.slice A' U.length c',fitF N] w fun e w'=>e= .returned (.bool (eX sup L U))/\Below w.heap.size w w':=by
 have hlc:=h.le;have hcm:=h.cap;have Oa:=h'.le;have hcm':=h'.cap;have HL:=zH h;have HM:=zH h';have HS:=zH hS;have HN:=zH hN;have HC:=zH hc;clear h h' hS hN hc;obtain⟨b,hb⟩:=zj (eX sup L U);rw[hb];have E:=zH hb.symm;clear hb;by_cases hn:L.length=U.length
 ·have Zj:=zH hn;have hlen:U.length=L.length:=hn.symm;have HE2:Hid (b=(L.zip U).all (fun p=>kZ sup p.1 p.2)):=zH (by rw[E.out];unfold eX;rw[Xi hn,Bool.true_and]);rw[hlen];clear hn;go_enter Tryz.func176,Tryz.ntmps176;go_wp2
  go_loopw [17] (fun i wr=>∃k:Nat,k<=L.length/\i= .int .i64 k/\Hid (∀p ∈(L.zip U).take k,kZ sup p.1 p.2=true)/\Hid (Below w.heap.size w wr)) (fun i _=>L.length - (intOf i).toNat)
  case atStart=>exact⟨0,by omega,rfl,zH (by simp),zH (zb _ _)⟩
  case round=>
   obtain⟨k,hk,rfl,HA,HX⟩:=hrel;by_cases hlt:k<L.length
   ·have vS:k<U.length:=by omega
    obtain⟨ad,rfl,hab,s0,s1⟩:=(HL.out.below_to zf.keeps HX.out (zn _)).row.at_ hlt;obtain⟨ad',rfl,hab',t0,t1⟩:=(HM.out.below_to zf.keeps HX.out (zn _)).row.at_ vS;obtain⟨hz,MF⟩:=zip_at hlt vS;obtain⟨r,hr⟩:=zj (kZ sup L[k] U[k]);have HR:=zH hr;have HT:Hid (r=true->∀p ∈(L.zip U).take (k+1),kZ sup p.1 p.2=true):=zH (fun g=>Jk (f:=fun p:(Int×Int)×(Int×Int)=>kZ sup p.1 p.2) hz HA.out (by rw[MF];show kZ sup L[k] U[k]=true;rw[hr,g]));have HF:Hid (r=false->b=false):=zH (fun g=>by rw[HE2.out];exact JP (f:=fun p:(Int×Int)×(Int×Int)=>kZ sup p.1 p.2) hz (by rw[MF];show kZ sup L[k] U[k]=false;rw[hr,g]));clear hr MF hz;generalize L[k]=t at*
    generalize U[k]=u at*
    have hA1:Below wr.heap.size wr (wr.alloc (.cells #[.int .i64 t.1,.int .i64 t.2] 45)):=zk;have hsz:=HX.out.size;have u0:=(hA1.cell (p:=ad'.add (k*2)) (by rw[zC];omega)).trans t0;have u1:=(hA1.cell (p:=zc (ad'.add (k*2)) 1) (by show(ad'.add _).block<_;rw[zC];omega)).trans t1;obtain⟨c1,c2,hb,hzz⟩:=LV wr t.1 t.2 u.1 u.2;have Zn:=zH c1;have kB:=zH c2;have zp:=zH (HX.out.trans (hb.mono hsz));clear c1 c2 hb hzz hA1;go_upto_region 7 with fail
    generalize(wr.alloc (.cells #[.int .i64 t.1,.int .i64 t.2] 45)).alloc (.cells #[.int .i64 u.1,.int .i64 u.2] 45)=w3 at*
    have d0:=Zn.out 0 _ rfl;have d1:=Zn.out 1 _ rfl;have e0:=kB.out 0 _ rfl;have e1:=kB.out 1 _ rfl;cases r
    ·go_wp2_with(go_at_call 177;(with_reducible refine(WE hl HS HN HC zp HR).mono ?_);rintro e w4 ⟨rfl,hb⟩;have HX4:=zi zp hb;clear hb)
     go_ret;exact⟨by rw[HF.out (by simp)];rfl,HX4.out⟩
    ·go_wp2_with(go_at_call 177;(with_reducible refine(WE hl HS HN HC zp HR).mono ?_);rintro e w4 ⟨rfl,hb⟩;have HX4:=zi zp hb;clear hb)
     go_roundw;case rel=>exact⟨k+1,by omega,by go_num,zH (HT.out (by simp)),HX4⟩
     case measure=>simp[intOf];omega
   ·have E2:=zH (show b=true by rw[HE2.out];exact JQ (f:=fun p:(Int×Int)×(Int×Int)=>kZ sup p.1 p.2) HA.out (by rw[List.length_zip];omega));go_wp2_with fail
    go_ret;exact⟨by rw[E2.out];rfl,HX.out⟩
 ·have E2:=zH (show b=false by rw[E.out];unfold eX;rw[Xf hn,Bool.false_and]);have hn':((L.length:Int)==(U.length:Int))=false:=XG.mpr (by omega);go_enter Tryz.func176,Tryz.ntmps176;go_wp2
  go_ret;exact⟨by rw[E2.out];rfl,zb _ _⟩
theorem q5f(sup:List Int)(L U:List (Int×Int))(A A' Vs:Option Addr)(c c' c'':Nat)(w:World)(hl:sup.length<=1048576)(hS:jh w w.heap.size Vs sup)(h:zd zf 2 w w.heap.size A c L)(h':zd zf 2 w w.heap.size A' c' U):
  Calls Tryz.prog 144 #[.slice Vs sup.length c'',.slice A L.length c,.slice A' U.length c'] w fun e w'=>e= .returned (.bool (eX sup L U))/\Below w.heap.size w w':=by
 have hA:Below w.heap.size w (w.alloc (.cells #[.slice Vs sup.length c''] 23)):=zk;have HA:=zH hA;have HL:Hid (zd zf 2 (w.alloc (.cells #[.slice Vs sup.length c''] 23)) (w.alloc (.cells #[.slice Vs sup.length c''] 23)).heap.size A c L):=zH ((h.below_to zf.keeps hA (zn _)).keep' zf.keeps hA.size (fun _ _=>rfl));have HU:Hid (zd zf 2 (w.alloc (.cells #[.slice Vs sup.length c''] 23)) (w.alloc (.cells #[.slice Vs sup.length c''] 23)).heap.size A' c' U):=zH ((h'.below_to zf.keeps hA (zn _)).keep' zf.keeps hA.size (fun _ _=>rfl));have HS:=zH (SY hS hA);have HC:=zH (qr w [.slice Vs sup.length c''] 23);have HZ:Hid (w.heap.size<(w.alloc (.cells #[.slice Vs sup.length c''] 23)).heap.size):=zH (by simp);clear h h' hA hS;go_enter Tryz.func144,Tryz.ntmps144;go_upto_region 1 with fail
 generalize w.alloc (.cells #[.slice Vs sup.length c''] 23)=w1 at*
 have c0:=HC.out 0 _ rfl;go_wp2_with(go_at_call 176;(with_reducible refine(q8w sup L U A A' Vs c c' c'' w.heap.size w1 hl HS.out HZ.out c0 HL.out HU.out).mono ?_);rintro e w2 ⟨rfl,hb⟩;have HB2:=zH hb;clear hb)
 go_ret;exact⟨rfl,zD HA HB2⟩
theorem Sj{m:za}{h:zh}{L U:List (Int×Int)}{A A':Option Addr}{c c':Nat}{w0 w:World}{r:Bool}(HI:Hid (zr w0 w0.heap.size h m))(HX:Hid (Below w0.heap.size w0 w))(hn:m.classes.length<=1000)(HL:zd zf 2 w w.heap.size A c L)(HU:zd zf 2 w w.heap.size A' c' U)(HR:Hid (eX (zy m.classes) L U=r)):
  Calls Tryz.prog 144 #[.slice h.A0 m.classes.length h.c0,.slice A L.length c,.slice A' U.length c'] w fun e w'=>e= .returned (.bool r)/\Below w.heap.size w w':=by
 have H:=q5f (zy m.classes) L U A A' h.A0 c c' h.c0 w (by rw[kE];omega) (eB (HI.out.now HX.out).classes.row) HL HU;rw[HR.out,kE]at H;exact H
theorem J7{w:World}{B c n:Nat}{A:Option Addr}{L:List (Int×Int)}(h:zd zf 2 w B A c L):zd zf 2 w B A c (L.take n):=
 ⟨Xe (by grind) h.le,h.cap,h.row.take_ n⟩
theorem qhr(st:List (Int×Int))(n:Nat)(hn:n<=1000000)(hs:st.length<=1000000)(A:Option Addr)(c:Nat)(w:World)(h:zd zf 2 w w.heap.size A c st):
  Calls Tryz.prog 143 #[.slice A st.length c,.int .i64 n] w fun e w'=>∃A1 c1 A2 c2,e= .returned (.tuple #[.slice A1 (st.take (st.length - n)).length c1,.slice A2 (st.drop (st.length - n)).length c2])/\
   zd zf 2 w w.heap.size A1 c1 (st.take (st.length - n))/\zd zf 2 w w.heap.size A2 c2 (st.drop (st.length - n))/\Below w.heap.size w w'/\w'.heap=w.heap:=by
 have hle:=h.le;have hcap:=h.cap;have HS:=zH h;obtain⟨d,hd⟩:=zj (st.length - n);have htl:(st.take (st.length - n)).length=d:=by grind
 have hdl:(st.drop (st.length - n)).length=st.length - d:=by grind
 have Vu:=zH htl;have bD:=zH hdl;rw[hd]at Vu bD;rw[hd];have hw1:IntKind.i64.wrap ((st.length:Int) - (n:Int))=(st.length:Int) - (n:Int):=IntWalk.i64_in _ (by omega);have hdl0:d<=st.length:=by omega
 have hd0:(0:Int)<=(d:Int):=by omega
 have hd1:(d:Int)<=(st.length:Int):=by omega
 have hd2:(d:Int)<=(c:Int):=by omega
 have hd3:(st.length:Int)<=(c:Int):=by omega
 have hmx:max ((st.length:Int) - (n:Int)) 0=(d:Int):=by omega
 clear h htl hdl;rcases A with _|ad
 ·have hst:st=[]:=by
   cases st with
   |nil=>rfl
   |cons t r=>
    obtain⟨ad,e,_⟩:=HS.out.row.at_ (i:=0) (by simp);cases e
  subst hst;obtain rfl:d=0:=by grind
  clear hd hmx Vu bD hle hs hdl0 hd0 hd1 hd2;have hw1:IntKind.i64.wrap (((0:Nat):Int) - (n:Int))=0 - (n:Int):=hw1;by_cases hn0:n=0
  ·subst hn0;go_enter Tryz.func143,Tryz.ntmps143;go_upto_region 2 with fail
   go_quiet (fail)
   all_goals
    go_wp2_with fail
    go_ret2
    exact⟨none,_,none,_,rfl,uV rfl hcap,uV rfl hcap,jf (zb _ _) _,rfl⟩
  ·have hng: -(n:Int)<0:=by omega
   have hmx:max (-(n:Int)) 0=0:=by omega
   go_enter Tryz.func143,Tryz.ntmps143;go_upto_region 2 with fail
   go_quiet (fail)
   all_goals
    go_wp2_with fail
    go_ret2
    exact⟨none,_,none,_,rfl,uV rfl hcap,uV rfl hcap,jf (zb _ _) _,rfl⟩
 ·by_cases hlt:(st.length:Int) - (n:Int)<0
  ·obtain rfl:d=0:=by omega
   go_enter Tryz.func143,Tryz.ntmps143;go_upto_region 2 with fail
   go_quiet (fail)
   go_wp2_with fail
   go_ret2
   exact⟨some ad,c,some ad,c,by simp_all,J7 HS.out,HS.out,jf (zb _ _) _,rfl⟩
  ·have hde:(st.length:Int) - (n:Int)=(d:Int):=by omega
   rw[hde]at hw1 hmx hlt;have hw1:IntKind.i64.wrap ((st.length:Int) - (n:Int))=(d:Int):=by grind
   by_cases hcd:c=d
   ·subst hcd;go_enter Tryz.func143,Tryz.ntmps143;go_upto_region 2 with fail
    go_quiet (fail)
    go_wp2_with fail
    go_ret2
    exact⟨some ad,c,some ad,0,by simp_all,J7 HS.out,(by grind [uV,Wp]),jf (zb _ _) _,rfl⟩
   ·go_enter Tryz.func143,Tryz.ntmps143;go_upto_region 2 with fail
    go_quiet (fail)
    go_wp2_with fail
    go_ret2
    exact⟨some ad,c,some (ad.add (d*2)),c - d,by simp_all,J7 HS.out,Sb HS.out hdl0,jf (zb _ _) _,rfl⟩
set_option maxHeartbeats 1600000 in
theorem yT(op:Int)(w:World):Calls Tryz.prog 161 #[.int .i64 op] w fun e w'=>e= .returned (.int .i64 (zX op))/\w=w':=by
 obtain⟨n,hn⟩:=zj (zX op);have H:=zH hn;rw[hn];clear hn;go_enter Tryz.func161,Tryz.ntmps161;go_wp2
 all_goals
  go_ret;refine⟨Lu ?_,rfl⟩;rw[<-H.out];clear H;try simp only[XX,XG,ne_eq]at*
  unfold zX iJ;simp;omega
theorem Lr{w w':World}{x y:Value}{T:TypeId}(hb:Below (w.alloc (.cells #[x,y] T)).heap.size (w.alloc (.cells #[x,y] T)) w'):
  zw w' w'.heap.size (some ⟨w.heap.size,0,none⟩) [x,y]/\zw w' w'.heap.size (some ⟨w.heap.size,0,none⟩) [x]/\zw w' w'.heap.size (some ⟨w.heap.size,1,none⟩) [y]:=by
 have hs:w.heap.size<(w.alloc (.cells #[x,y] T)).heap.size:=by simp
 have hs':=hb.size;have c0:w'.cell? ⟨w.heap.size,0,none⟩=some x:=(hb.cell hs).trans (by rw[World.cell?_alloc_at _ _ _ _ rfl];rfl);have c1:w'.cell? ⟨w.heap.size,1,none⟩=some y:=(hb.cell hs).trans (by rw[World.cell?_alloc_at _ _ _ _ rfl];rfl);refine⟨?_,?_,?_⟩
 ·intro j u hj;refine⟨_,rfl,(by show w.heap.size<_;omega),?_⟩
  match j,hj with
  |0,hj=>simp at hj;subst hj;exact c0
  |1,hj=>simp at hj;subst hj;exact c1
 ·intro j u hj;refine⟨_,rfl,(by show w.heap.size<_;omega),?_⟩
  match j,hj with
  |0,hj=>simp at hj;subst hj;exact c0
 ·intro j u hj;refine⟨_,rfl,(by show w.heap.size<_;omega),?_⟩
  match j,hj with
  |0,hj=>simp at hj;subst hj;exact c1
def Ma(N n c:Nat)(w:World)(e:Ending)(w':World):Prop:=
 e= .returned (.tuple #[.slice (some ⟨N,0,none⟩) n 2,.slice (some ⟨N,c,none⟩) (2 - n) (2 - n)])/\Below w.heap.size w w'
theorem IL{P:Prop}(h:P:=by
 go_enter Tryz.func160,Tryz.ntmps160;go_wp2_with(go_at_call 161;(with_reducible refine(yT _ _).mono ?_);rintro e w1 ⟨rfl,rfl⟩;rw[H.out])
 go_quiet (skip)
 go_wp2
 go_ret2
 exact⟨rfl,jf (zb _ _) _⟩):P:=h
theorem q08(op:Int)(N:Nat)(w:World)(h:zX op=2):Calls Tryz.prog 160 #[.int .i64 op,.slice (some ⟨N,0,none⟩) 2 2] w (Ma N 2 0 w):=by
 have H:=zH h;clear h;exact IL
theorem q09(op:Int)(N:Nat)(w:World)(h:zX op=1):Calls Tryz.prog 160 #[.int .i64 op,.slice (some ⟨N,0,none⟩) 2 2] w (Ma N 1 1 w):=by
 have H:=zH h;clear h;exact IL
theorem WK(op:Int)(N:Nat)(w:World)(h:zX op<=0):Calls Tryz.prog 160 #[.int .i64 op,.slice (some ⟨N,0,none⟩) 2 2] w (Ma N 0 0 w):=by
 have hr:=pu op;rcases(show zX op= -1\/zX op=0 by omega)with hn|hn;all_goals
  have H:=zH hn;clear hn h hr;exact IL
def upB(e:Int)(l:List Int):Bool:=decide (∀x ∈l,0<=x/\x<=e)
theorem Es(en:Int)(l:List Int)(n:Nat)(A:Option Addr)(cap B:Nat)(w:World)(hn:l.length=n)(hl:n<=2)(h:zw w B A (l.map (Value.int .i64))):
  Calls Tryz.prog 162 #[.int .i64 en,.slice A n cap] w fun e w'=>e= .returned (.bool (upB en l))/\w=w':=by
 subst hn;have HL:=zH h;clear h;go_enter Tryz.func162,Tryz.ntmps162;go_wp2
 go_loop [9] (fun i=>∃k:Nat,k<=l.length/\i= .int .i64 k/\Hid (upB en l=upB en (l.drop k))) (fun i=>l.length - (intOf i).toNat)
 case atStart=>exact⟨0,by omega,rfl,zH rfl⟩
 case round=>
  obtain⟨k,hk,rfl,HN⟩:=hrel;by_cases hlt:k<l.length
  ·obtain⟨ad,rfl,_,hc⟩:=HL.out.at_ (k:=k) (by simpa using hlt);have E1:=zH (Wq hlt);simp only[List.getElem_map]at hc;generalize l[k]=b at*
   have HS:Hid (upB en l=(decide (0<=b/\b<=en)&& upB en (l.drop (k+1)))):=zH (by
    rw[HN.out,E1.out];unfold upB;rw[XQ];simp)
   clear HN E1;by_cases hb:0<=b
   ·by_cases hb':b<=en
    ·go_wp2_with fail
     go_round
     case rel=>exact⟨k+1,by omega,by go_num,zH (by rw[HS.out,Xi (show 0<=b/\b<=en from⟨hb,hb'⟩)];rfl)⟩
     case measure=>simp[intOf];omega
    ·have HF:Hid (upB en l=false):=zH (by rw[HS.out,Xf (show ¬(0<=b/\b<=en)by omega)];rfl);clear HS;go_wp2_with fail
     go_ret;refine⟨?_,rfl⟩;rw[HF.out];rfl
   ·have HF:Hid (upB en l=false):=zH (by rw[HS.out,Xf (show ¬(0<=b/\b<=en)by omega)];rfl);clear HS;go_wp2_with fail
    go_ret;refine⟨?_,rfl⟩;rw[HF.out];rfl
  ·have R:=zH (show upB en l=true by rw[HN.out,Wm (by omega)];rfl);clear HN;go_wp2_with fail
   go_ret;refine⟨?_,rfl⟩;rw[R.out];rfl
section
variable{w0 w:World}{a b en:Int}{T:TypeId}{N:Nat}
theorem UE(hN:w0.heap.size=N)(HB:Hid (Below (w0.alloc (.cells #[.int .i64 a,.int .i64 b] T)).heap.size (w0.alloc (.cells #[.int .i64 a,.int .i64 b] T)) w)):
  Calls Tryz.prog 162 #[.int .i64 en,.slice (some ⟨N,0,none⟩) 2 2] w fun e w'=>e= .returned (.bool (upB en [a,b]))/\w=w':=by
 subst hN;exact Es en [a,b] 2 _ _ _ w rfl (zn _) (Lr HB.out).1
theorem qfh(hN:w0.heap.size=N)(HB:Hid (Below (w0.alloc (.cells #[.int .i64 a,.int .i64 b] T)).heap.size (w0.alloc (.cells #[.int .i64 a,.int .i64 b] T)) w)):
  Calls Tryz.prog 162 #[.int .i64 en,.slice (some ⟨N,0,none⟩) 1 2] w fun e w'=>e= .returned (.bool (upB en [a]))/\w=w':=by
 subst hN;exact Es en [a] 1 _ _ _ w rfl (by omega) (Lr HB.out).2.1
theorem qfg(hN:w0.heap.size=N)(HB:Hid (Below (w0.alloc (.cells #[.int .i64 a,.int .i64 b] T)).heap.size (w0.alloc (.cells #[.int .i64 a,.int .i64 b] T)) w)):
  Calls Tryz.prog 162 #[.int .i64 en,.slice (some ⟨N,1,none⟩) 1 1] w fun e w'=>e= .returned (.bool (upB en [b]))/\w=w':=by
 subst hN;exact Es en [b] 1 _ _ _ w rfl (by omega) (Lr HB.out).2.2
theorem Y1(A:Option Addr)(c:Nat):Calls Tryz.prog 162 #[.int .i64 en,.slice A 0 c] w fun e w'=>e= .returned (.bool true)/\w=w':=
 Es en [] 0 A c 0 w rfl (by omega) zw.nil
end
set_option maxHeartbeats 800000 in
theorem qd7(op a b:Int)(w:World):Calls Tryz.prog 126 #[qt op a b] w fun e w'=>e= .returned (.bool (qs op a b))/\Below w.heap.size w w':=by
 have hr:=pu op;rcases(show zX op= -1\/zX op=0\/zX op=1\/zX op=2 by omega)with hn|hn|hn|hn
 ·have H:=zH hn;have E:=zH (show qs op a b=false by unfold qs;rw[hn];simp);rw[E.out];clear hn hr;go_enter Tryz.func126,Tryz.ntmps126;go_wp2_with(go_at_call 161;(with_reducible refine(yT _ _).mono ?_);rintro e w1 ⟨rfl,rfl⟩;rw[H.out])
  go_ret;exact⟨rfl,zk⟩
 ·have H:=zH hn;have HZ:=zH (show zX op<=0 by omega);have E:=zH (show qs op a b=upB 0 [a,b]by unfold qs upB;rw[hn,Wj];simp;omega);rw[E.out];clear hn hr;go_enter Tryz.func126,Tryz.ntmps126;go_wp2_with(first
   |(go_at_call 161;(with_reducible refine(yT _ _).mono ?_);rintro e w1 ⟨rfl,rfl⟩;rw[H.out])
   |(go_at_call 160;(with_reducible refine(WK _ _ _ HZ.out).mono ?_);rintro e w2 ⟨rfl,hb⟩;have HB:=zH hb;clear hb)
   |(go_at_call 162;(with_reducible refine(Y1 _ _).mono ?_);rintro e w3 ⟨rfl,rfl⟩)
   |(go_at_call 162;(with_reducible refine(UE (by simp) HB).mono ?_);rintro e w3 ⟨rfl,rfl⟩))
  all_goals
   go_ret;exact⟨rfl,((zk).alloc (by simp) _).trans (HB.out.mono (by simp;omega))⟩
 ·have H:=zH hn;have E:=zH (show qs op a b=(upB 255 [a]&& upB 0 [b])by unfold qs upB;rw[hn,XQ];simp;omega);rw[E.out];clear hn hr;go_enter Tryz.func126,Tryz.ntmps126;go_wp2_with(first
   |(go_at_call 161;(with_reducible refine(yT _ _).mono ?_);rintro e w1 ⟨rfl,rfl⟩;rw[H.out])
   |(go_at_call 160;(with_reducible refine(q09 _ _ _ H.out).mono ?_);rintro e w2 ⟨rfl,hb⟩;have HB:=zH hb;clear hb)
   |(go_at_call 162;(with_reducible refine(qfh (by simp) HB).mono ?_);rintro e w3 ⟨rfl,rfl⟩)
   |(go_at_call 162;(with_reducible refine(qfg (by simp) HB).mono ?_);rintro e w3 ⟨rfl,rfl⟩))
  all_goals
   go_ret;refine⟨K8 ?_,((zk).alloc (by simp) _).trans (HB.out.mono (by simp;omega))⟩;simp_all
 ·have H:=zH hn;have E:=zH (show qs op a b=upB 255 [a,b]by unfold qs upB;rw[hn,Wj];simp;omega);rw[E.out];clear hn hr;go_enter Tryz.func126,Tryz.ntmps126;go_wp2_with(first
   |(go_at_call 161;(with_reducible refine(yT _ _).mono ?_);rintro e w1 ⟨rfl,rfl⟩;rw[H.out])
   |(go_at_call 160;(with_reducible refine(q08 _ _ _ H.out).mono ?_);rintro e w2 ⟨rfl,hb⟩;have HB:=zH hb;clear hb)
   |(go_at_call 162;(with_reducible refine(Y1 _ _).mono ?_);rintro e w3 ⟨rfl,rfl⟩)
   |(go_at_call 162;(with_reducible refine(UE (by simp) HB).mono ?_);rintro e w3 ⟨rfl,rfl⟩))
  all_goals
   go_ret;refine⟨K8 ?_,((zk).alloc (by simp) _).trans (HB.out.mono (by simp;omega))⟩;simp_all
theorem Dk{P:Prop}(h:P:=by
 refine mR 9 (h:=fun K hK=> ?_);go_simp;(go_at_call 109;(with_reducible refine(qjh sj HFP kK).mono ?_);rintro e w6 ⟨rfl,hb⟩;replace HX:=zH (HX.out.trans (hb.mono (Xg HW.out.lt)));replace HW:=zH (HW.out.keep hb HW.out.lt);have q0:=HW.out.cells 0 _ rfl;have q1:=HW.out.cells 1 _ rfl;have f0:=HW.out.free 0;have f1:=HW.out.free 1;clear hb)
 refine mK hK (qI.out _ HX.out) (h:=fun hHeld=> ?_);clear hK K;refine mR 10 (h:=fun K hK=> ?_);go_simp;refine mK hK (qI.out _ ((HX.out.setCell (p:=⟨w.heap.size+1,0,none⟩) (zn _) _).setCell (p:=⟨w.heap.size+1,1,none⟩) (zn _) _)) (h:=fun hHeld=> ?_);clear hK K;refine wpAnyH_done (by kernel_rfl) ?_ _;refine NoPanic.normal ?_;have HW2:=zH (qck HW.out (r:=rs));have HX2:=zH ((HX.out.setCell (p:=⟨w.heap.size+1,0,none⟩) (zn _) (.int .i64 (rs.getD 0))).setCell (p:=⟨w.heap.size+1,1,none⟩) (zn _) (.bool rs.isNone));go_wp2_with fail
 go_roundw;case rel=>exact⟨k+1,by omega,by go_num,xB.out ▸ HW2,HX2⟩
 case measure=>simp[intOf];omega):P:=h
set_option maxHeartbeats 6400000 in
theorem q7w(q:Inq)(L:List Int)(A B:Option Addr)(c d:Nat)(w:World)(hq:zd zu 1 w w.heap.size A c q.1)(hl:zd zu 1 w w.heap.size B d L):
  Calls Tryz.prog 58 #[inqV q A c,.slice B L.length d] w (Bf (VA q L) w):=by
 show Calls Tryz.prog 58 #[.agg #[.slice A q.1.length c,.int .i64 q.2],.slice B L.length d] w (Bf (VA q L) w);have HL:=zH hq;have HM:=zH hl;have hc1:=hq.le;have hc2:=hq.cap;have hd1:=hl.le;have hd2:=hl.cap;clear hq hl;by_cases hn:q.1.length=L.length;rotate_left
 ·have hi:((L.length:Int) !=(q.1.length:Int))=true:=by simp;omega
  have HR:Hid (VA q L=none):=zH (by unfold VA;rw[Xa hn]);clear hn;go_enter Tryz.func58,Tryz.ntmps58;go_wp2_with fail
  go_ret2
  unfold Bf;rw[HR.out];exact⟨rfl,zk (w:=w)⟩
 obtain⟨n,hnn⟩:=zj (q.1.length);have Zj:Hid (q.1.length=n):=zH hnn;have Qc:Hid (L.length=n):=zH (by omega);have HR:Hid (VA q L=(rU q.1 L).map (fun n=>decide (n<=q.2))):=zH (by unfold VA;rw[Xb hn]);obtain⟨R,hR⟩:=zj (VA q L);rw[hR]at HR;rw[hR,show L.length=n by omega,hnn];rw[show L.length=n by omega]at hd1;rw[hnn]at hc1;have hi:((n:Int) !=(n:Int))=false:=by simp
 clear hn hnn hR;go_enter Tryz.func58,Tryz.ntmps58;go_upto_region 4 with fail
 have dB:Hid (Below w.heap.size w ((w.alloc (.cells #[.slice A n c,.int .i64 q.2] 113)).alloc (.cells #[.int .i64 0,.bool false] 168))):=zH ((zk (w:=w)).alloc (by simp) _);have ym:Hid (zm ((w.alloc (.cells #[.slice A n c,.int .i64 q.2] 113)).alloc (.cells #[.int .i64 0,.bool false] 168)) w.heap.size [.slice A n c,.int .i64 q.2] 113):=zH ((zm.new w [.slice A n c,.int .i64 q.2] 113).keep ((zb (w.heap.size+1) _).alloc (by simp) _) (Nat.lt_succ_self _));have xN:Hid (zm ((w.alloc (.cells #[.slice A n c,.int .i64 q.2] 113)).alloc (.cells #[.int .i64 0,.bool false] 168)) (w.heap.size+1) (numC (VF q.1 L 0)) 168):=zH (zm.at_ (by simp) [.int .i64 0,.bool false] 168);generalize(w.alloc (.cells #[.slice A n c,.int .i64 q.2] 113)).alloc (.cells #[.int .i64 0,.bool false] 168)=w1 at*
 have a0:=ym.out.cells 0 _ rfl;go_wp2_with fail
 go_loopw [18] (fun i wr=>∃k:Nat,k<=n/\i= .int .i64 k/\Hid (zm wr (w.heap.size+1) (numC (VF q.1 L k)) 168)/\Hid (Below (w.heap.size+1) w1 wr)) (fun i _=>n - (intOf i).toNat)
 case atStart=>exact⟨0,Xn _,rfl,xN,zH (zb _ _)⟩
 case round=>
  clear xN;obtain⟨k,hk,rfl,HW,HX⟩:=hrel;by_cases hkn:k<n
  ·have hkL:k<q.1.length:=by rw[Zj.out];exact hkn
   have hkM:k<L.length:=by rw[Qc.out];exact hkn
   obtain⟨ad,rfl,hab,s0⟩:=HL.out.row.at_ hkL;obtain⟨ad',rfl,hab',t0⟩:=HM.out.row.at_ hkM;replace s0:w.cell? (ad.add k)=some (.int .i64 q.1[k]):=by have:=s0;rw[Xq]at this;exact this
   replace t0:w.cell? (ad'.add k)=some (.int .i64 L[k]):=by have:=t0;rw[Xq]at this;exact this
   obtain⟨x,hx⟩:=zj (q.1[k]);obtain⟨y,hy⟩:∃x,L[k]=x:=⟨_,rfl⟩
   have xB:Hid (VF q.1 L (k+1)=dn (VF q.1 L k) (Vf (ofO x) (ofO y))):=zH (q7e (by rw[<-hx];exact Xc hkL) (by rw[<-hy];exact Xc hkM));have sj:Hid (ZW (VF q.1 L k)):=zH (q7f _ _ _);rw[hx]at s0;rw[hy]at t0;have HB1:Hid (∀W,Below (w.heap.size+1) w1 W->Below w.heap.size w W):=zH (fun W hW=>dB.out.trans (hW.mono (by omega)));have qI:Hid (∀W,Below (w.heap.size+1) w1 W->(fun w'=>w'.cell? (ad'.add k)=some (.int .i64 y)) W):=zH (fun W hW=>((HB1.out W hW).cell (p:=ad'.add k) (by rw[zC];exact hab')).trans t0);have s1:=((HB1.out _ HX.out).cell (p:=ad.add k) (by exact zZ hab)).trans s0;obtain⟨rx,hrx⟩:∃r,ofO x=r:=⟨_,rfl⟩
   obtain⟨ry,Gg⟩:∃r,ofO y=r:=⟨_,rfl⟩
   have YI:=zH hrx;have MM:=zH Gg;have wU:Hid (ZW rx):=zH (hrx ▸ EB x);have Fx:Hid (ZW ry):=zH (Gg ▸ EB y);rw[hrx,Gg]at xB;obtain⟨rp,Gi⟩:∃r,Vf rx ry=r:=⟨_,rfl⟩
   have dG:=zH Gi;have HFP:Hid (ZW rp):=zH (Gi ▸ TP _ _);rw[Gi]at xB;generalize VF q.1 L k=s at*
   obtain⟨rs,hrs⟩:∃r,dn s rp=r:=⟨_,rfl⟩
   have kK:=zH hrs;rw[hrs]at xB;clear hx hy t0 s0 hrx Gg Gi hrs;go_upto_region 7 with fail
   clear s1;refine wp_region_noPanic ?_;refine wp_region_held_drew (S:=fun w'=>w'.cell? (ad'.add k)=some (.int .i64 y)) (by kernel_rfl) (qI.out _ HX.out.drew) (fun hHeld=> ?_);replace HX:=zH HX.out.drew;replace HW:=zH (HW.out.drew');generalize wr.drew=wd at*
   have q0:=HW.out.cells 0 _ rfl;have q1:=HW.out.cells 1 _ rfl;have f0:=HW.out.free 0;have f1:=HW.out.free 1;refine mT 1 (h:=mT 3 (h:=mT 4 (h:=mT 5 (h:=mT 6 (h:= ?_)))));refine wpAnyH_ready (rs:=[0,2]) (by kernel_rfl) (by simp) ?_;refine(AllReadyH.cons (o:=_) rfl (fun K hK=> ?_) (AllReadyH.cons (o:=_) rfl (fun K hK=> ?_) AllReadyH.nil))
   ·go_simp;refine mK hK hHeld (h:=fun hHeld=> ?_);clear hK K;refine mR 2 (h:=fun K hK=> ?_);go_simp;(go_at_call 110;(with_reducible refine(mY YI).mono ?_);rintro e w6 ⟨rfl,hb⟩;replace HX:=zH (HX.out.trans (hb.mono (Xg HW.out.lt)));replace HW:=zH (HW.out.keep hb HW.out.lt);have q0:=HW.out.cells 0 _ rfl;have q1:=HW.out.cells 1 _ rfl;have f0:=HW.out.free 0;have f1:=HW.out.free 1;clear hb)
    refine mK hK (qI.out _ HX.out) (h:=fun hHeld=> ?_);clear hK K;refine mR 7 (h:=fun K hK=> ?_);go_simp;(go_at_call 110;(with_reducible refine(mY MM).mono ?_);rintro e w6 ⟨rfl,hb⟩;replace HX:=zH (HX.out.trans (hb.mono (Xg HW.out.lt)));replace HW:=zH (HW.out.keep hb HW.out.lt);have q0:=HW.out.cells 0 _ rfl;have q1:=HW.out.cells 1 _ rfl;have f0:=HW.out.free 0;have f1:=HW.out.free 1;clear hb)
    refine mK hK (qI.out _ HX.out) (h:=fun hHeld=> ?_);clear hK K;refine mR 8 (h:=fun K hK=> ?_);go_simp;(go_at_call 111;(with_reducible refine(Ev wU Fx dG).mono ?_);rintro e w6 ⟨rfl,hb⟩;replace HX:=zH (HX.out.trans (hb.mono (Xg HW.out.lt)));replace HW:=zH (HW.out.keep hb HW.out.lt);have q0:=HW.out.cells 0 _ rfl;have q1:=HW.out.cells 1 _ rfl;have f0:=HW.out.free 0;have f1:=HW.out.free 1;clear hb)
    refine mK hK (qI.out _ HX.out) (h:=fun hHeld=> ?_);clear hK K;exact Dk
   ·go_simp;(go_at_call 110;(with_reducible refine(mY YI).mono ?_);rintro e w6 ⟨rfl,hb⟩;replace HX:=zH (HX.out.trans (hb.mono (Xg HW.out.lt)));replace HW:=zH (HW.out.keep hb HW.out.lt);have q0:=HW.out.cells 0 _ rfl;have q1:=HW.out.cells 1 _ rfl;have f0:=HW.out.free 0;have f1:=HW.out.free 1;clear hb)
    refine mK hK (qI.out _ HX.out) (h:=fun hHeld=> ?_);clear hK K;refine wpAnyH_ready (rs:=[0,7]) (by kernel_rfl) (by simp) ?_;refine(AllReadyH.cons (o:=_) rfl (fun K hK=> ?_) (AllReadyH.cons (o:=_) rfl (fun K hK=> ?_) AllReadyH.nil))
    ·go_simp;refine mK hK hHeld (h:=fun hHeld=> ?_);clear hK K;refine mR 7 (h:=fun K hK=> ?_);go_simp;(go_at_call 110;(with_reducible refine(mY MM).mono ?_);rintro e w6 ⟨rfl,hb⟩;replace HX:=zH (HX.out.trans (hb.mono (Xg HW.out.lt)));replace HW:=zH (HW.out.keep hb HW.out.lt);have q0:=HW.out.cells 0 _ rfl;have q1:=HW.out.cells 1 _ rfl;have f0:=HW.out.free 0;have f1:=HW.out.free 1;clear hb)
     refine mK hK (qI.out _ HX.out) (h:=fun hHeld=> ?_);clear hK K;refine mR 8 (h:=fun K hK=> ?_);go_simp;(go_at_call 111;(with_reducible refine(Ev wU Fx dG).mono ?_);rintro e w6 ⟨rfl,hb⟩;replace HX:=zH (HX.out.trans (hb.mono (Xg HW.out.lt)));replace HW:=zH (HW.out.keep hb HW.out.lt);have q0:=HW.out.cells 0 _ rfl;have q1:=HW.out.cells 1 _ rfl;have f0:=HW.out.free 0;have f1:=HW.out.free 1;clear hb)
     refine mK hK (qI.out _ HX.out) (h:=fun hHeld=> ?_);clear hK K;exact Dk
    ·go_simp;(go_at_call 110;(with_reducible refine(mY MM).mono ?_);rintro e w6 ⟨rfl,hb⟩;replace HX:=zH (HX.out.trans (hb.mono (Xg HW.out.lt)));replace HW:=zH (HW.out.keep hb HW.out.lt);have q0:=HW.out.cells 0 _ rfl;have q1:=HW.out.cells 1 _ rfl;have f0:=HW.out.free 0;have f1:=HW.out.free 1;clear hb)
     refine mK hK (qI.out _ HX.out) (h:=fun hHeld=> ?_);clear hK K;refine wpAnyH_ready (rs:=[0,8]) (by kernel_rfl) (by simp) ?_;refine(AllReadyH.cons (o:=_) rfl (fun K hK=> ?_) (AllReadyH.cons (o:=_) rfl (fun K hK=> ?_) AllReadyH.nil))
     ·go_simp;refine mK hK hHeld (h:=fun hHeld=> ?_);clear hK K;refine mR 8 (h:=fun K hK=> ?_);go_simp;(go_at_call 111;(with_reducible refine(Ev wU Fx dG).mono ?_);rintro e w6 ⟨rfl,hb⟩;replace HX:=zH (HX.out.trans (hb.mono (Xg HW.out.lt)));replace HW:=zH (HW.out.keep hb HW.out.lt);have q0:=HW.out.cells 0 _ rfl;have q1:=HW.out.cells 1 _ rfl;have f0:=HW.out.free 0;have f1:=HW.out.free 1;clear hb)
      refine mK hK (qI.out _ HX.out) (h:=fun hHeld=> ?_);clear hK K;exact Dk
     ·go_simp;(go_at_call 111;(with_reducible refine(Ev wU Fx dG).mono ?_);rintro e w6 ⟨rfl,hb⟩;replace HX:=zH (HX.out.trans (hb.mono (Xg HW.out.lt)));replace HW:=zH (HW.out.keep hb HW.out.lt);have q0:=HW.out.cells 0 _ rfl;have q1:=HW.out.cells 1 _ rfl;have f0:=HW.out.free 0;have f1:=HW.out.free 1;clear hb)
      refine mK hK (qI.out _ HX.out) (h:=fun hHeld=> ?_);clear hK K;refine mR 0 (h:=fun K hK=> ?_);go_simp;refine mK hK hHeld (h:=fun hHeld=> ?_);clear hK K;exact Dk
  ·have hki:¬(k:Int)<(n:Int):=by omega
   have HD:Hid (VF q.1 L k=rU q.1 L):=zH (qcd (by rw[List.length_zip,Zj.out,Qc.out];omega));have hz:=HW.out;rw[HD.out]at hz;have HB:Hid (Below w.heap.size w wr):=zH (dB.out.trans (HX.out.mono (by omega)));have lH:Hid (zm wr w.heap.size [.slice A n c,.int .i64 q.2] 113):=zH (ym.out.keep HX.out (Nat.lt_succ_self _));have a1:=lH.out.cells 1 _ rfl;cases hd:rU q.1 L with
   |none=>
    rw[hd]at hz HR;have HN:Hid (R=none):=zH HR.out;have z0:=hz.cells 0 _ rfl;have z1:wr.cell? ⟨w.heap.size+1,1,none⟩=some (.bool true):=hz.cells 1 _ rfl;clear hd;go_wp2_with fail
    go_ret2
    unfold Bf;rw[HN.out];exact⟨rfl,HB.out⟩
   |some u=>
    rw[hd]at hz HR;have HN:Hid (R=some (decide (u<=q.2))):=zH HR.out;have z0:wr.cell? ⟨w.heap.size+1,0,none⟩=some (.int .i64 u):=hz.cells 0 _ rfl;have z1:wr.cell? ⟨w.heap.size+1,1,none⟩=some (.bool false):=hz.cells 1 _ rfl;clear hd hz;go_wp2_with fail
    go_ret2
    unfold Bf;rw[HN.out];exact⟨rfl,HB.out⟩
def CutHas(N n:Nat)(w:World)(e:Ending)(w':World):Prop:=
 ∃v,e= .returned (.tuple #[.slice (some ⟨N,0,none⟩) n 2,v])/\Below w.heap.size w w'
theorem qk5(op:Int)(N n:Nat)(w:World)(h:(zX op).toNat=n):Calls Tryz.prog 160 #[.int .i64 op,.slice (some ⟨N,0,none⟩) 2 2] w (CutHas N n w):=by
 have hr:=pu op;rcases(show zX op<=0\/zX op=1\/zX op=2 by omega)with g|g|g
 ·obtain rfl:n=0:=by omega
  exact(WK op N w g).mono fun e w' ⟨he,hb⟩=>⟨_,he,hb⟩
 ·obtain rfl:n=1:=by omega
  exact(q09 op N w g).mono fun e w' ⟨he,hb⟩=>⟨_,he,hb⟩
 ·obtain rfl:n=2:=by omega
  exact(q08 op N w g).mono fun e w' ⟨he,hb⟩=>⟨_,he,hb⟩
theorem dY{w w1 w2:World}{r:Option Nat}(h:w.grownBy w1 r)(g:w1.grownBy w2 r):w.grownBy w2 r:=
 ⟨g.os.trans h.os,g.tape.trans h.tape,g.output.trans h.output,Xe h.size g.size,fun k hk hn=>(g.block k (Xp hk h.size) hn).trans (h.block k hk hn)⟩
theorem aC{w w1:World}{r:Option Nat}(h:w.grownBy w1 r){a:Addr}(ha:w.heap.size<=a.block)(v:Value):w.grownBy (w1.setCell a v) r:=
 ⟨h.os,h.tape,h.output,by simpa using h.size,fun k hk hn=>(XJ w1 a v k (by omega)).trans (h.block k hk hn)⟩
theorem Q3{w w1:World}{r:Option Nat}(h:w.grownBy w1 r)(o:Obj):w.grownBy (w1.alloc o) r:=dY h (World.grownBy_alloc _ _ _)
theorem q54{w w1 w2:World}{r r':Option Nat}(h:w.grownBy w1 r)(g:w1.grownBy w2 r')(hr:∀k,r'=some k->w.heap.size<=k):w.grownBy w2 r:=
 ⟨g.os.trans h.os,g.tape.trans h.tape,g.output.trans h.output,Xe h.size g.size,fun k hk hn=>(g.block k (Xp hk h.size) (by grind)).trans (h.block k hk hn)⟩
theorem Q0{w w1:World}{N B:Nat}(h:w.grownBy w1 (some N))(hB:B<=N)(hN:N<w.heap.size):Below B w w1:=
 (zb B w).grown h (by omega) (by grind)
theorem Rx{k:IntKind}{n:Int}{rest:List Int}{bad:Bool}{N B:Nat}{w w1:World}{e:Ending}(h:Fj k N B n rest bad w e w1/\vO N w w1):w.grownBy w1 (some N):=
 ⟨h.1.2.2.os,h.1.2.2.tape,h.1.2.2.output,by rw[h.2.1];omega,fun b hb hn=>h.2.2 b (by grind)⟩
theorem q4b{w w1:World}(h:Below w.heap.size w w1)(r:Option Nat):w.grownBy w1 r:=⟨h.os,h.tape,h.output,h.size,fun k hk _=>h.block k hk⟩
theorem q55{w w1:World}{r:Option Nat}(h:w.grownBy w1 r)(n:Nat):w.grownBy (w1.drewN n) r:=⟨h.os,h.tape,h.output,h.size,h.block⟩
def qki(N B:Nat)(rest:List Int)(bad:Bool)(w:World)(e:Ending)(w':World):Prop:=
 ∃op a b,e= .returned (qt op a b)/\Rd w' N (Qw rest bad).2.1 (Qw rest bad).2.2/\Below B w w'/\((Qw rest bad).2.2=false->(Qw rest bad).1=(op,a,b))
def stI(rest:List Int)(bad:Bool):Nat->(Int×Int)×List Int×Bool
 |0=>((0,0),rest,bad)
 |1=>(((ql rest bad 255).1,0),(ql rest bad 255).2)
 |_=>(((ql rest bad 255).1,(ql (ql rest bad 255).2.1 (ql rest bad 255).2.2 255).1),(ql (ql rest bad 255).2.1 (ql rest bad 255).2.2 255).2)
theorem qjz{rest r0:List Int}{bad b0:Bool}{op:Int}{n:Nat}(hg:ql rest bad 34=(op,r0,b0))(h:(zX op).toNat=n):
  Qw rest bad=((op,(stI r0 b0 n).1.1,(stI r0 b0 n).1.2),(stI r0 b0 n).2):=by
 have hr:=pu op;unfold Qw;rw[hg];dsimp only;rcases(show zX op<=0\/zX op=1\/zX op=2 by omega)with g|g|g
 ·obtain rfl:n=0:=by omega
  have c1:¬0<zX op:=by omega
  have c2:¬1<zX op:=by omega
  simp only[Xa c1,Xa c2,stI]
 ·obtain rfl:n=1:=by omega
  have c1:0<zX op:=by omega
  have c2:¬1<zX op:=by omega
  simp only[Xb c1,Xa c2,stI]
 ·obtain rfl:n=2:=by omega
  have c1:0<zX op:=by omega
  have c2:1<zX op:=by omega
  simp only[Xb c1,Xb c2,stI]
theorem st_one{rest rest':List Int}{bad bad':Bool}{x0 y0 x:Int}{r1:List Int}{b1:Bool}(h:stI r1 b1 0=((x0,y0),rest,bad))(g:ql rest bad 255=(x,rest',bad')):y0=0/\stI r1 b1 1=((x,0),rest',bad'):=by
 simp only[stI,Prod.mk.injEq]at h;obtain⟨⟨rfl,rfl⟩,rfl,rfl⟩:=h;simp[stI,g]
theorem st_two{rest rest':List Int}{bad bad':Bool}{x0 y0 x:Int}{r1:List Int}{b1:Bool}(h:stI r1 b1 1=((x0,y0),rest,bad))(g:ql rest bad 255=(x,rest',bad')):stI r1 b1 2=((x0,x),rest',bad'):=by
 simp only[stI,Prod.mk.injEq]at h;obtain⟨⟨rfl,_⟩,h⟩:=h;unfold stI
 grind
theorem KJ{rest:List Int}{bad:Bool}{most:Int}(hl:rest.length<=1048576)(hr:∀b ∈rest,0<=b/\b<=255):
  ∃n rest' bad',ql rest bad most=(n,rest',bad')/\rest'.length<=1048576/\∀b ∈rest',0<=b/\b<=255:=by
 unfold ql
 grind
theorem Rd.keep_to{w w':World}{N C:Nat}{rest:List Int}{bad:Bool}(h:Rd w N rest bad)(hb:Below C w w')(hN:N<C):Rd w' N rest bad:=by
 obtain⟨A,cap,xs,hh,hl,h1,h2,h3⟩:=h;exact⟨A,cap,xs,by rw[hb.block N hN];exact hh,hl.below_to hb (by omega),h1,h2,h3⟩
theorem Lc{w:World}{N B:Nat}{rest rest':List Int}{bad bad':Bool}{n most:Int}(HR:Hid (Rd w N rest bad))(HB:Hid (B<=N))(HL:Hid (rest.length<=1048576))(HG:Hid (∀b ∈rest,0<=b/\b<=255))(G:Hid (ql rest bad most=(n,rest',bad'))):
  Calls Tryz.prog 79 #[.pointer (some ⟨N,0,none⟩),.int .i64 most] w fun e w'=>Fj .i64 N B n rest' bad' w e w'/\vO N w w':=by
 have h:=KT N B rest bad most w HL.out HG.out HB.out HR.out;rw[G.out]at h;exact h
abbrev blk3(x y z:Int):Obj:= .cells #[.int .i64 x,.int .i64 y,.int .i64 z] 50 (0,0)
abbrev nA(x y:Int):Obj:= .cells #[.int .i64 x,.int .i64 y] 3 (0,0)
theorem q9t{w:World}{b:Nat}{x y z:Int}(h:w.heap[b]? =some (blk3 x y z)):w.cell? ⟨b,0,none⟩=some (.int .i64 x)/\w.cell? ⟨b,1,none⟩=some (.int .i64 y)/\w.cell? ⟨b,2,none⟩=some (.int .i64 z):=by
 refine⟨?_,?_,?_⟩<;>simp[World.cell?,h]
theorem J9{w:World}{b i:Nat}{x y z:Int}(h:w.heap[b]? =some (blk3 x y z)):w.frozen? ⟨b,i,none⟩=false:=by simp[World.frozen?,h]
def GSt(w wr:World)(N B M:Nat)(x y:Int)(rest:List Int)(bad:Bool):Prop:=
 wr.heap[w.heap.size]? =some (blk3 0 0 0)/\wr.heap[M]? =some (nA x y)/\Rd wr N rest bad/\w.grownBy wr (some N)/\N<w.heap.size/\w.heap.size<M/\B<=N
theorem qdh{w w1 w2:World}{N B:Nat}{r0:List Int}{b0:Bool}(hN:N<w.heap.size)(hBN:B<=N)(hr:Rd w1 N r0 b0)(hb1:Below B (w.alloc (blk3 0 0 0)) w1)(hs:vO N (w.alloc (blk3 0 0 0)) w1)
  (hb2:Below (w1.alloc (nA 0 0)).heap.size (w1.alloc (nA 0 0)) w2):GSt w w2 N B w1.heap.size 0 0 r0 b0:=by
 have z0:(w.alloc (blk3 0 0 0)).heap.size=w.heap.size+1:=by simp
 have z1:(w1.alloc (nA 0 0)).heap.size=w1.heap.size+1:=by simp
 have z2:=hs.1;have h12:Below w1.heap.size w1 w2:=(zk).trans (hb2.mono (by omega));refine⟨?_,?_,hr.keep h12,?_,hN,by omega,hBN⟩
 ·rw[h12.block _ (by omega),hs.2 _ (by omega)];exact Xz _ _
 ·rw[hb2.block _ (by omega)];exact Xz _ _
 ·exact dY (dY (World.grownBy_alloc _ _ _) ⟨hb1.os,hb1.tape,hb1.output,by omega,fun b hb hn=>hs.2 b (by grind)⟩) (q4b h12 _)
theorem qdg{w wr w3:World}{N B M:Nat}{x y x':Int}{rest rest':List Int}{bad bad':Bool}(h:GSt w wr N B M x y rest bad)(hr:Rd w3 N rest' bad')(hb:Below B wr w3)(hs:vO N wr w3):
  w3.heap[M]? =some (nA x y)/\GSt w (w3.setCell ⟨M,0,none⟩ (.int .i64 x')) N B M x' y rest' bad':=by
 obtain⟨h1,h2,h3,h4,h5,h6,h7⟩:=h;have hm:w3.heap[M]? =some (nA x y):=by rw[hs.2 M (by omega)];exact h2
 refine⟨hm,?_,KY hm,hr.keep_to ((zb M w3).setCell (zn _) _) (by omega),aC (dY h4 ⟨hb.os,hb.tape,hb.output,hb.size,fun b hb' hn=>hs.2 b (by grind)⟩) (by grind) _,h5,h6,h7⟩;rw[((vO.refl M w3).setCell 0 _).2 _ (by omega),hs.2 _ (by omega)];exact h1
theorem qdf{w wr w3:World}{N B M:Nat}{x y y':Int}{rest rest':List Int}{bad bad':Bool}(h:GSt w wr N B M x y rest bad)(hr:Rd w3 N rest' bad')(hb:Below B wr w3)(hs:vO N wr w3):
  w3.heap[M]? =some (nA x y)/\GSt w (w3.setCell ⟨M,1,none⟩ (.int .i64 y')) N B M x y' rest' bad':=by
 obtain⟨h1,h2,h3,h4,h5,h6,h7⟩:=h;have hm:w3.heap[M]? =some (nA x y):=by rw[hs.2 M (by omega)];exact h2
 refine⟨hm,?_,UI hm,hr.keep_to ((zb M w3).setCell (zn _) _) (by omega),aC (dY h4 ⟨hb.os,hb.tape,hb.output,hb.size,fun b hb' hn=>hs.2 b (by grind)⟩) (by grind) _,h5,h6,h7⟩;rw[((vO.refl M w3).setCell 1 _).2 _ (by omega),hs.2 _ (by omega)];exact h1
set_option maxHeartbeats 800000 in
theorem qhf(N B:Nat)(rest:List Int)(bad:Bool)(w:World)(hl:rest.length<=1048576)(hr:∀b ∈rest,0<=b/\b<=255)(hBN:B<=N)(h:Rd w N rest bad):
  Calls Tryz.prog 122 #[.pointer (some ⟨N,0,none⟩)] w fun e w'=>qki N B rest bad w e w'/\w.grownBy w' (some N):=by
 have hlt:=h.lt;obtain⟨op,r0,b0,hg,hl0,hr0⟩:=KJ (bad:=bad) (most:=34) hl hr;obtain⟨n,hn⟩:=zj ((zX op).toNat);have hn2:n<=2:=by have:=pu op;omega
 have HI:=zH (qjz hg hn);have HN:=zH hn;have HG:=zH hg;have HB:=zH hBN;have HL:=zH hl;have HR:=zH hr;have qN:=zH hl0;have ky:=zH hr0;have Gp:=zH (h.keep (zk (o:=(.cells #[.int .i64 0,.int .i64 0,.int .i64 0] 50))));clear hn hg hl hr hl0 hr0 h hBN;go_enter Tryz.func122,Tryz.ntmps122;go_wp2_with(first
  |(go_at_call 79;(with_reducible refine(Lc Gp HB HL HR HG).mono ?_);rintro e w1 ⟨⟨rfl,hrd,hb⟩,hs⟩;have q2k:=zH hrd;have HB1:=zH hb;have qZ:=zH hs;clear hrd hb hs)
  |(go_at_call 160;(with_reducible refine(qk5 _ _ _ _ HN.out).mono ?_);rintro e w2 ⟨v2,rfl,hb⟩;have HG2:=zH (qdh hlt HB.out q2k.out HB1.out qZ.out hb);clear hb q2k HB1 qZ))
 go_loopw [19] (fun i wr=>∃(k:Nat) (x y:Int) (rest':List Int) (bad':Bool),i= .int .i64 k/\k<=n/\Hid (GSt w wr N B w1.heap.size x y rest' bad')/\Hid (rest'.length<=1048576)/\Hid (∀b ∈rest',0<=b/\b<=255)/\Hid (stI r0 b0 k=((x,y),rest',bad'))) (fun i _=>n - (intOf i).toNat)
 case atStart=>exact⟨0,0,0,r0,b0,rfl,by omega,HG2,qN,ky,zH rfl⟩
 case round=>
  obtain⟨k,x,y,r2,b2,rfl,hk,HS,HL2,HR2,HT⟩:=hrel;obtain⟨x',r3,b3,hg3,hl3,hr3⟩:=KJ (bad:=b2) (most:=255) HL2.out HR2.out;have dU:=zH hg3;have QH:=zH hl3;have HR3:=zH hr3;have q1k:=zH HS.out.2.2.1;clear hg3 hl3 hr3;by_cases hlt':k<n
  ·rcases(show k=0\/k=1 by omega)with rfl|rfl
   ·go_wp2_with(go_at_call 79;(with_reducible refine(Lc q1k HB HL2 HR2 dU).mono ?_);rintro e w3 ⟨⟨rfl,hrd,hb⟩,hs⟩;obtain⟨hm,hg⟩:=qdg (x':=x') HS.out hrd hb hs;have f0:w3.frozen? ⟨w1.heap.size,0,none⟩=false:=EI hm;have c0:=En hm;have jM:=zH hg;clear hm hg hrd hb hs)
    go_roundw;case rel=>exact⟨1,x',y,r3,b3,rfl,by omega,jM,QH,HR3,zH (by obtain⟨e1,e2⟩:=st_one HT.out dU.out;grind)⟩
    case measure=>simp[intOf];omega
   ·go_wp2_with(go_at_call 79;(with_reducible refine(Lc q1k HB HL2 HR2 dU).mono ?_);rintro e w3 ⟨⟨rfl,hrd,hb⟩,hs⟩;obtain⟨hm,hg⟩:=qdf (y':=x') HS.out hrd hb hs;have f1:w3.frozen? ⟨w1.heap.size,1,none⟩=false:=EI hm;have c1:=Em hm;have jM:=zH hg;clear hm hg hrd hb hs)
    go_roundw;case rel=>exact⟨2,x,x',r3,b3,rfl,by omega,jM,QH,HR3,zH (st_two HT.out dU.out)⟩
    case measure=>simp[intOf];omega
  ·obtain rfl:k=n:=by omega
   have c0:=En HS.out.2.1;have c1:=Em HS.out.2.1;have r0':=q9t HS.out.1;have f0:wr.frozen? ⟨w.heap.size,0,none⟩=false:=J9 HS.out.1;have f1:wr.frozen? ⟨w.heap.size,1,none⟩=false:=J9 HS.out.1;have f2:wr.frozen? ⟨w.heap.size,2,none⟩=false:=J9 HS.out.1;obtain⟨q0,q1,q2⟩:=r0';go_wp2_with fail
   go_region
   go_wp2
   refine Xk (v:=qt op x y) (by simp[results,Tryz.results122,go_sem,q0,q1,q2]) rfl ⟨⟨op,x,y,rfl,?_,?_,?_⟩,q55 (aC (aC (aC HS.out.2.2.2.1 (zn _) _) (zn _) _) (zn _) _) 1⟩
   ·rw[HI.out,HT.out];exact HS.out.2.2.1.keep_to (jf ((((zb w.heap.size wr).setCell (zn _) _).setCell (zn _) _).setCell (zn _) _) 1) hlt
   ·have hBw:B<=w.heap.size:=Xe HB.out (Xg hlt);exact jf ((((Q0 HS.out.2.2.2.1 HB.out hlt).setCell hBw _).setCell hBw _).setCell hBw _) 1
   ·intro _;rw[HI.out,HT.out]
