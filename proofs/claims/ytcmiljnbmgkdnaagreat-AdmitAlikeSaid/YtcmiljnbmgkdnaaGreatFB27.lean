import Derived.Test.YtcmiljnbmgkdnaaGreatFB24
namespace Go.Proofs.YtcmiljnbmgkdnaaGreat
set_option maxRecDepth 100000
set_option linter.unusedVariables false
set_option linter.unusedSimpArgs false
open Go.ChangeShapes Go.WideShapes Go.ChangeAt Go.RowKit
theorem Zh.nil{w:World}{gO n:Nat}(h:zd w gO (List.replicate n (.slice none 0 0)) 119):Zh w gO n [] []:=
 ⟨by simpa[sqV]using h,rfl,fun i g r hg=>by simp at hg,by simp,fun g hg=>by simp at hg⟩
theorem Zh.lt{w:World}{gO n:Nat}{G:List Nat}{W:List (List Bool)}(h:Zh w gO n G W):∀g ∈G,g<w.heap.size:=fun g hg=>by
 obtain⟨i,hi,rfl⟩:=Wl hg;exact(h.row_in hi).1.lt
def q43(EL:List (List Int))(n k:Nat)(L:List Int)(q:Nat)(X:List (List Bool)):Prop:=∀a b:Nat,a<k+1→b<n→(wat X a b=true↔((a<k∧vb EL a b)∨(a=k∧(b:Int) ∈L.take q)))
theorem q43.start{EL:List (List Int)}{n k:Nat}{L:List Int}{W:List (List Bool)}(hk:W.length=k)(h:∀a b:Nat,a<k→b<n→(wat W a b=true↔vb EL a b)):q43 EL n k L 0 (W++[List.replicate n false]):=fun a b ha hb=>by
 rcases Xk a k with q|q
 ·have e:wat (W++[List.replicate n false]) a b=wat W a b:=by unfold wat;rw[XN (by omega)]
  rw[e,h a b q hb];exact⟨fun x=> .inl ⟨q,x⟩,fun x=>by rcases x with⟨_,x⟩|⟨x,_⟩;exact x;omega⟩
 ·obtain rfl:a=k:=by omega
  have e:wat (W++[List.replicate n false]) a b=false:=by
   unfold wat
   rw[XP (by omega),hk,Nat.sub_self];simp[Wm,hb]
  rw[e];simp
theorem q43.end_{EL:List (List Int)}{n k:Nat}{L:List Int}{X:List (List Bool)}(h:q43 EL n k L L.length X)(hL:EL[k]?.getD []=L):∀a b:Nat,a<k+1→b<n→(wat X a b=true↔vb EL a b):=fun a b ha hb=>by
 rw[h a b ha hb,XU];rcases Xk a k with q|q
 ·exact⟨fun x=>by rcases x with⟨_,x⟩|⟨x,_⟩;exact x;omega,fun x=> .inl ⟨q,x⟩⟩
 ·obtain rfl:a=k:=by omega
  unfold vb;rw[hL];exact⟨fun x=>by rcases x with⟨x,_⟩|⟨_,x⟩;omega;exact x,fun x=> .inr ⟨rfl,x⟩⟩
structure Ji(EL:List (List Int))(n:Nat)(C:Nat→Int)(r f:Nat)(O:List Int):Prop where
 len:O.length=n
 low:∀t,0≤oN O t
 top:∀t,oN O t≤4800000*r+400000*f
 old:∀t,t<n→Qk EL n t≤r→oN O t=vO EL n C t
 new:∀t,t<n→t<f→Qk EL n t≤r+1→oN O t=vO EL n C t
section
variable{EL:List (List Int)}{n:Nat}{C:Nat→Int}{r f:Nat}{O:List Int}
theorem Ji.start:Ji EL n C 0 0 (List.replicate n 0):=by
 have h:∀t,oN (List.replicate n 0) t=0:=fun t=>by
  unfold oN;rw[Wm];split<;>rfl
 refine⟨Wj ..,fun t=>by rw[h];exact XE _,fun t=>by rw[h];omega,fun t ht hc=> ?_,fun t _ ht=>by omega⟩;have:=qes (EL:=EL) ht;omega
theorem Ji.step(h:Ji EL n C r f O)(hE:kA EL n)(hn:n≤12)(h0:∀g,0≤C g)(h1:∀g,C g≤32088)(hf:f<n):Ji EL n C r (f+1) (O.set f (kg EL n C f n+ki EL n (oN O) f n)):=by
 have hl:f<O.length:=by rw[h.len];exact hf
 have a1:=qbe (EL:=EL) (n:=n) (f:=f) (k:=n) h0;have a2:=qoh (EL:=EL) (n:=n) (C:=C) (f:=f) (k:=n) (M:=32088) h1 (by omega);have a3:=qc8 (EL:=EL) (n:=n) (o:=oN O) (f:=f) (k:=n);have a4:=qqt (EL:=EL) (n:=n) (o:=oN O) (f:=f) (k:=n) (M:=4800000*(r:Int)+400000*(f:Int)) hE (by omega) (fun t _=>h.top t);refine⟨by rw[XI];exact h.len,fun t=> ?_,fun t=> ?_,fun t ht hc=> ?_,fun t ht htf hc=> ?_⟩
 ·rw[Yd hl];split
  ·omega
  ·exact h.low t
 ·rw[Yd hl];split
  ·omega
  ·have:=h.top t;omega
 ·rw[Yd hl];split
  ·rename_i e;subst e;exact qag hE ht (by omega) h.old
  ·exact h.old t ht hc
 ·rw[Yd hl];split
  ·rename_i e;subst e;exact qag hE ht hc h.old
  ·exact h.new t ht (by omega) hc
theorem Ji.next(h:Ji EL n C r f O)(hf:n≤f)(hf2:f≤12):Ji EL n C (r+1) 0 O:=
 ⟨h.len,h.low,fun t=>by have:=h.top t;omega,fun t ht hc=>h.new t ht (by omega) hc,fun t _ ht=>by omega⟩
theorem Ji.done(h:Ji EL n C r f O)(hr:n≤r):O=(List.range n).map (vO EL n C):=by
 refine We (by rw[h.len,Xo,XZ]) fun i h1 h2=> ?_;have hi:i<n:=by rw[←h.len];exact h1
 have:=h.old i hi (by have:=qf9 (EL:=EL) (n:=n) i;omega);rw[ZA h1]at this;rw[this];simp
end
structure ZB(w:World)(N:Nat)(h:zi)(m:za):Prop where
 cell:w.cell? ⟨N,0,none⟩=some (.slice h.A0 m.classes.length h.c0)
 lt:N<w.heap.size
theorem ZB.now{w w':World}{N:Nat}{h:zi}{m:za}(H:ZB w N h m)(hb:Below w.heap.size w w'):ZB w' N h m:=
 ⟨(hb.cell (p:=⟨N,0,none⟩) H.lt).trans H.cell,Xj H.lt hb.size⟩
theorem qtj{m:za}{c:Int}{h:zi}{N:Nat}{w0 w:World}{L:List (Int×Int)}(HI:Hid (zm w0 w0.heap.size h m))(HX:Hid (Below w0.heap.size w0 w))(HK:Hid (ZB w0 N h m))(HS:Hid (kX m.classes=true))(HT:Hid (Yt m))(h1:c<m.classes.length)(HL:Hid (qh m.classes c=L)):
  Calls Tryz.prog 128 #[.int .i64 c,.pointer (some ⟨N,0,none⟩)] w fun e w'=>e= .returned (.int .i64 (L.length:Int))∧Below w.heap.size w w':=by
 have H:=q9c m.classes c N h.A0 h.c0 w.heap.size w (zn _) (HI.out.now HX.out).classes (HK.out.now HX.out).cell HS.out HT.out.f HT.out.n h1;rw[HL.out]at H;exact H.mono fun e w' g=>⟨g.1,by rw[←g.2];exact zb _ _⟩
theorem q5h{x:zh}{hx:qx}{w:World}(HU:Hid (q0m x)):
  Calls Tryz.prog 132 #[kn hx x] w fun e w'=>e= .returned (.int .i64 ((x.args.length:Int)+(x.locals.length:Int)))∧Below w.heap.size w w':=
 qh3 x hx w HU.out.a HU.out.l
theorem q7v{P:Prop}(h:P:=by
 go_upto_region 6 with fail
 have HXd:Hid (Below w1.heap.size w1 w1.drew):=zH (zb _ _).drew;go_region_held3 (fun w'=>w'.cell? ⟨w.heap.size+1+1,1,none⟩=some (.int .i64 a)∧w'.cell? ⟨w.heap.size+1,0,none⟩=some (.slice hx.A0 x.args.length hx.k0)∧w'.cell? ⟨w.heap.size+1,1,none⟩=some (.slice hx.A1 x.locals.length hx.k1)∧w'.cell? ⟨w.heap.size+1,2,none⟩=some (.int .i64 x.ret.1)∧w'.cell? ⟨w.heap.size+1,3,none⟩=some (.int .i64 x.ret.2)∧w'.cell? ⟨w.heap.size+1,4,none⟩=some (.slice hx.A4 x.code.length hx.k4)∧w'.cell? ⟨w.heap.size+1,5,none⟩=some (.int .i64 x.depth)∧w'.cell? ⟨w.heap.size+1,6,none⟩=some (.int .i64 x.pot)∧w'.cell? ⟨w.heap.size+1,7,none⟩=some (.slice hx.A7 x.phi.length hx.k7)) (first|exact⟨a1,p0,p1,p2,p3,p4,p5,p6,p7⟩)
  (first|(go_at_call 132;(with_reducible refine(q5h HU).mono ?_);rintro e w3 ⟨rfl,hb⟩;have HX3:=zj HXd hb;have HC:=zH (HC.out.keep HX3.out (by have:=HZ.out;omega));have a1:=HC.out 1 _ rfl;have a2:=HC.out 2 _ rfl;have HP:=zH (HP.out.keep HX3.out (by have:=HZ.out;omega));obtain⟨p0,p1,p2,p3,p4,p5,p6,p7⟩:=zY HP.out;clear hb))
 go_wp2_with fail
 go_ret;exact⟨by rw[E.out];rfl,HW.out.trans (HX3.out.mono (by have:=HZ.out;omega))⟩):P:=h
theorem q7u{P:Prop}(h:P:=by
 go_upto_region 15 with fail
 have HXd:Hid (Below w1.heap.size w1 w1.drew):=zH (zb _ _).drew;go_region_held3 (fun w'=>w'.cell? ⟨w.heap.size+1+1,1,none⟩=some (.int .i64 a)∧w'.cell? ⟨w.heap.size+1+1,2,none⟩=some (.int .i64 b)∧w'.cell? ⟨w.heap.size,0,none⟩=some (.slice h.A0 m.classes.length h.c0)) (first|exact⟨a1,a2,q0⟩)
  (first|(go_at_call 128;(with_reducible refine(qtj HI HXd HK HS HT hlt HL).mono ?_);rintro e w3 ⟨rfl,hb⟩;have HX3:=zj HXd hb;have HC:=zH (HC.out.keep HX3.out (by have:=HZ.out;omega));have a1:=HC.out 1 _ rfl;have a2:=HC.out 2 _ rfl;have HQ:=zH (HQ.out.keep HX3.out (by have:=HZ.out;omega));have q0:=HQ.out 0 _ rfl;clear hb))
 go_wp2_with fail
 go_ret;exact⟨by rw[E2.out];rfl,HW.out.trans (HX3.out.mono (by have:=HZ.out;omega))⟩):P:=h
set_option maxHeartbeats 3200000 in
theorem qiz(m:za)(x:zh)(op a b:Int)(N:Nat)(h:zi)(hx:qx)(w:World)(H:zm w w.heap.size h m)(HM:jt w w.heap.size hx x)(hk:ZB w N h m)(h0:0≤a)(ht:Yt m)(hu:q0m x)(hs:kX m.classes=true):
  Calls Tryz.prog 133 #[zp h m,kn hx x,zF op a b,cntV N] w fun e w'=>e= .returned (.bool (zZ m x op a b))∧Below w.heap.size w w':=by
 obtain⟨hq,hp,hc,hb,hz⟩:=qgx w (Vq h m) (qb hx x) [.int .i64 op,.int .i64 a,.int .i64 b] 28 53 55;have HQ:=zH hq;have HP:=zH hp;have HC:=zH hc;have HW:=zH hb;have HZ:=zH hz;have HI:=zH (H.now hb);have HK:=zH (hk.now hb);have HT:=zH ht;have HU:=zH hu;have HS:=zH hs;have l0:=H.classes.le;have l0c:=H.classes.cap;have l1:=H.statics.le;have l1c:=H.statics.cap;have l2:=H.ints.le;have l2c:=H.ints.cap;have l3:=H.methods.le;have l3c:=H.methods.cap;have l4:=HM.code.le;have l4c:=HM.code.cap;have m1:=hu.a;have m2:=hu.l;clear hq hp hc hb hz H HM hk ht hu hs;go_enter Tryz.func133,Tryz.ntmps133;go_upto_region 1 with fail
 generalize((w.alloc (.cells (Vq h m).toArray 28)).alloc (.cells (qb hx x).toArray 53)).alloc (.cells [Value.int .i64 op,.int .i64 a,.int .i64 b].toArray 55)=w1 at*
 obtain⟨q0,q1,q2,q3,q4,q5,q6⟩:=ck7 HQ.out;obtain⟨p0,p1,p2,p3,p4,p5,p6,p7⟩:=zY HP.out;obtain⟨a0,a1,a2⟩:=qw HC.out;by_cases o1:op=1
 ·subst o1;have E:=zH (show zZ m x 1 a b=decide (a<m.ints.length)from rfl);go_wp2_with fail
  go_ret;exact⟨by rw[E.out];rfl,HW.out⟩
 by_cases o3:op=3
 ·subst o3;have E:=zH (show zZ m x 3 a b=decide (a<x.args.length+x.locals.length)from rfl);exact q7v
 by_cases o4:op=4
 ·subst o4;have E:=zH (show zZ m x 4 a b=decide (a<x.args.length+x.locals.length)from rfl);exact q7v
 by_cases o18:op=18
 ·subst o18;have E:=zH (show zZ m x 18 a b=decide (a<x.code.length)from rfl);go_wp2_with fail
  go_ret;exact⟨by rw[E.out];rfl,HW.out⟩
 by_cases o19:op=19
 ·subst o19;have E:=zH (show zZ m x 19 a b=decide (a<x.code.length)from rfl);go_wp2_with fail
  go_ret;exact⟨by rw[E.out];rfl,HW.out⟩
 by_cases o22:op=22
 ·subst o22;have E:=zH (show zZ m x 22 a b=decide (a<m.classes.length)from rfl);go_wp2_with fail
  go_ret;exact⟨by rw[E.out];rfl,HW.out⟩
 by_cases o34:op=34
 ·subst o34;have E:=zH (show zZ m x 34 a b=decide (a<m.classes.length)from rfl);go_wp2_with fail
  go_ret;exact⟨by rw[E.out];rfl,HW.out⟩
 by_cases o29:op=29
 ·subst o29;have E:=zH (show zZ m x 29 a b=decide (a<m.statics.length)from rfl);go_wp2_with fail
  go_ret;exact⟨by rw[E.out];rfl,HW.out⟩
 by_cases o30:op=30
 ·subst o30;have E:=zH (show zZ m x 30 a b=decide (a<m.statics.length)from rfl);go_wp2_with fail
  go_ret;exact⟨by rw[E.out];rfl,HW.out⟩
 by_cases o31:op=31
 ·subst o31;have E:=zH (show zZ m x 31 a b=decide (a<m.methods.length)from rfl);go_wp2_with fail
  go_ret;exact⟨by rw[E.out];rfl,HW.out⟩
 by_cases o27:op=27
 ·subst o27;have E:=zH (show zZ m x 27 a b=(decide (a<m.classes.length)&& decide (b<(qh m.classes a).length))from rfl);obtain⟨L,hL⟩:∃L,qh m.classes a=L:=⟨_,rfl⟩
  rw[hL]at E;have HL:=zH hL;clear hL;by_cases hlt:a<(m.classes.length:Int)
  ·have E2:=zH (show zZ m x 27 a b=decide (b<(L.length:Int))by rw[E.out,Xm hlt];rfl);exact q7u
  ·have E2:=zH (show zZ m x 27 a b=false by rw[E.out,Xg hlt];rfl);have hd:decide (a<(m.classes.length:Int))=false:=Xg hlt;go_upto_region 15 with fail
   go_quiet (fail)
   go_wp2_with fail
   go_ret;exact⟨by rw[E2.out];rfl,qZ HW.out _⟩
 by_cases o28:op=28
 ·subst o28;have E:=zH (show zZ m x 28 a b=(decide (a<m.classes.length)&& decide (b<(qh m.classes a).length))from rfl);obtain⟨L,hL⟩:∃L,qh m.classes a=L:=⟨_,rfl⟩
  rw[hL]at E;have HL:=zH hL;clear hL;by_cases hlt:a<(m.classes.length:Int)
  ·have E2:=zH (show zZ m x 28 a b=decide (b<(L.length:Int))by rw[E.out,Xm hlt];rfl);exact q7u
  ·have E2:=zH (show zZ m x 28 a b=false by rw[E.out,Xg hlt];rfl);have hd:decide (a<(m.classes.length:Int))=false:=Xg hlt;go_upto_region 15 with fail
   go_quiet (fail)
   go_wp2_with fail
   go_ret;exact⟨by rw[E2.out];rfl,qZ HW.out _⟩
 by_cases o32:op=32
 ·subst o32;have E:=zH (show zZ m x 32 a b=(decide (a<m.classes.length)&& decide (b<q1p m.classes a))from rfl);by_cases hlt:a<(m.classes.length:Int)
  ·obtain⟨n,rfl⟩:=Xq h0;have hnl:n<m.classes.length:=by omega
   obtain⟨adc,e0,hab,hcl⟩:=HI.out.classes.row.at_ hnl;have HSN:=zH (show q1p m.classes (n:Int)=(m.classes[n].slots.length:Int)by unfold q1p;rw[Xi,Xc hnl]);generalize m.classes[n]=c at*
   obtain⟨_,_,⟨A2,k2,s2,hs2⟩⟩:=hcl;rw[e0]at q0;have E2:=zH (show zZ m x 32 (n:Int) b=decide (b<(c.slots.length:Int))by rw[E.out,HSN.out,Xm hlt];rfl);clear e0 hs2 HSN;go_upto_region 22 with fail
   go_quiet (fail)
   go_wp2_with fail
   go_ret;exact⟨by rw[E2.out];rfl,qZ HW.out _⟩
  ·have E2:=zH (show zZ m x 32 a b=false by rw[E.out,Xg hlt];rfl);have hd:decide (a<(m.classes.length:Int))=false:=Xg hlt;go_upto_region 22 with fail
   go_quiet (fail)
   go_wp2_with fail
   go_ret;exact⟨by rw[E2.out];rfl,qZ HW.out _⟩
 have E:=zH (show zZ m x op a b=true by unfold zZ;simp[o1,o3,o4,o18,o19,o22,o34,o27,o28,o29,o30,o31,o32]);go_wp2_with fail
 go_ret;exact⟨by rw[E.out];rfl,HW.out⟩
def vi(m:za)(x:zh):Bool:=decide (¬x.code.length=0)&& (decide (x.phi.length=x.code.length)&& (decide (x.args.length+x.locals.length≤8)&& Vm m x))
theorem qax{m:za}{x:zh}{op a b:Int}{N:Nat}{h:zi}{hx:qx}{w0 w:World}{r:Bool}(HI:Hid (zm w0 w0.heap.size h m))(HM:Hid (jt w0 w0.heap.size hx x))(HK:Hid (ZB w0 N h m))(HX:Hid (Below w0.heap.size w0 w))(HT:Hid (Yt m))(HU:Hid (q0m x))(HS:Hid (kX m.classes=true))(H0:Hid (0≤a))(HR:Hid (zZ m x op a b=r)):
  Calls Tryz.prog 133 #[zp h m,kn hx x,zF op a b,cntV N] w fun e w'=>e= .returned (.bool r)∧Below w.heap.size w w':=by
 have H:=qiz m x op a b N h hx w (HI.out.now HX.out) (HM.out.now HX.out) (HK.out.now HX.out) H0.out HT.out HU.out HS.out;rw[HR.out]at H;exact H
theorem q44{P:Prop}(h:P:=by
 go_wp2_with((go_at_call 132;(with_reducible refine(q5h (hx:=⟨A0x,A1x,A4x,A7x,k0x,k1x,k4x,k7x⟩) HU).mono ?_);rintro e w5 ⟨rfl,hb⟩;have HX:=zj HX hb;obtain⟨kq0,kq1,kq2,kq3,kq4,kq5,kq6⟩:=ck7 (HQ.out.keep HX.out HQZ.out);obtain⟨kp0,kp1,kp2,kp3,kp4,kp5,kp6,kp7⟩:=zY (HP.out.keep HX.out HPZ.out);clear hb))
 go_ret;exact⟨by rw[E2.out];rfl,HW.out.trans (HX.out.mono HZw.out)⟩):P:=h
set_option maxHeartbeats 3200000 in
theorem qh4(m:za)(x:zh)(N:Nat)(h:zi)(hx:qx)(w:World)(H:zm w w.heap.size h m)(H':jt w w.heap.size hx x)(hk:ZB w N h m)(ht:Yt m)(hu:q0m x)(hs:kX m.classes=true):
  Calls Tryz.prog 87 #[zp h m,kn hx x,cntV N] w fun e w'=>e= .returned (.bool (vi m x))∧Below w.heap.size w w':=by
 obtain⟨hq,hp,hb,hz⟩:=q92 w (Vq h m) (qb hx x) 28 53;have HQ:=zH hq;have HP:=zH hp;have HW:=zH hb;have HI:=zH (H.now hb);have HM:=zH (H'.now hb);have HK:=zH (hk.now hb);have HT:=zH ht;have HU:=zH hu;have HS:=zH hs;have HQZ:Hid (w.heap.size<((w.alloc (.cells (Vq h m).toArray 28)).alloc (.cells (qb hx x).toArray 53)).heap.size):=zH (by omega);have HPZ:Hid (w.heap.size+1<((w.alloc (.cells (Vq h m).toArray 28)).alloc (.cells (qb hx x).toArray 53)).heap.size):=zH (by omega);have HZw:Hid (w.heap.size≤((w.alloc (.cells (Vq h m).toArray 28)).alloc (.cells (qb hx x).toArray 53)).heap.size):=zH (by omega);have m1:=hu.a;have m2:=hu.l;have m3:=H'.phi.le;have m3c:=H'.phi.cap;have m4:=H'.code.le;have m4c:=H'.code.cap;clear hq hp hb hz H H' hk ht hu hs;go_enter Tryz.func87,Tryz.ntmps87;go_upto_region 1 with fail
 generalize(w.alloc (.cells (Vq h m).toArray 28)).alloc (.cells (qb hx x).toArray 53)=w1 at*
 have HX:Hid (Below w1.heap.size w1 w1):=zH (zb _ _);obtain⟨A0x,A1x,A4x,A7x,k0x,k1x,k4x,k7x⟩:=hx;have HMC:=zH HM.out.code;dsimp only at m1 m2 m3 m3c m4 m4c HMC;obtain⟨kq0,kq1,kq2,kq3,kq4,kq5,kq6⟩:=ck7 (HQ.out.keep HX.out HQZ.out);obtain⟨kp0,kp1,kp2,kp3,kp4,kp5,kp6,kp7⟩:=zY (HP.out.keep HX.out HPZ.out);dsimp only at kp0 kp1 kp2 kp3 kp4 kp5 kp6 kp7;by_cases c1:¬x.code.length=0;rotate_left
 ·have ct1:((x.code.length:Int)==0)=true:=beq_iff_eq.mpr (by omega);have E2:=zH (show vi m x=false by unfold vi;rw[Xg (by simpa using c1)];rfl);exact q44
 have ct1:((x.code.length:Int)==0)=false:=XG.mpr (by omega);have Cc1:=zH c1;clear c1;by_cases c2:x.phi.length=x.code.length;rotate_left
 ·have ct2:((x.phi.length:Int) !=(x.code.length:Int))=true:=XC.mpr (by omega);have E2:=zH (show vi m x=false by unfold vi;rw[Xg (p:=x.phi.length=x.code.length) c2];simp);exact q44
 have ct2:((x.phi.length:Int) !=(x.code.length:Int))=false:=bne_eq_false_iff_eq.mpr (by omega);have Cc2:=zH c2;clear c2;by_cases c3:x.args.length+x.locals.length≤8;rotate_left
 ·have ct3:(8:Int)<(x.args.length:Int)+(x.locals.length:Int):=by omega
  have E2:=zH (show vi m x=false by unfold vi;rw[Xg (p:=x.args.length+x.locals.length≤8) c3];simp);exact q44
 have ct3:¬(8:Int)<(x.args.length:Int)+(x.locals.length:Int):=by omega
 have Cc3:=zH c3;clear c3;go_wp2_with((go_at_call 132;(with_reducible refine(q5h (hx:=⟨A0x,A1x,A4x,A7x,k0x,k1x,k4x,k7x⟩) HU).mono ?_);rintro e w5 ⟨rfl,hb⟩;have HX:=zj HX hb;obtain⟨kq0,kq1,kq2,kq3,kq4,kq5,kq6⟩:=ck7 (HQ.out.keep HX.out HQZ.out);obtain⟨kp0,kp1,kp2,kp3,kp4,kp5,kp6,kp7⟩:=zY (HP.out.keep HX.out HPZ.out);clear hb))
 go_loopw [30] (fun i wr=>∃k:Nat,k≤x.code.length∧i= .int .i64 k∧Hid (∀i ∈x.code.take k,zZ m x i.1 i.2.1 i.2.2=true)∧Hid (Below w1.heap.size w1 wr)) (fun i _=>x.code.length - (intOf i).toNat)
 case atStart=>exact⟨0,by omega,rfl,zH (by simp),HX⟩
 case round=>
  clear HX kq0 kq1 kq2 kq3 kq4 kq5 kq6 kp0 kp1 kp2 kp3 kp4 kp5 kp6 kp7;obtain⟨k,hk,rfl,HN,HX⟩:=hrel;obtain⟨kq0,kq1,kq2,kq3,kq4,kq5,kq6⟩:=ck7 (HQ.out.keep HX.out HQZ.out);obtain⟨kp0,kp1,kp2,kp3,kp4,kp5,kp6,kp7⟩:=zY (HP.out.keep HX.out HPZ.out);by_cases hlt:k<x.code.length
  ·obtain⟨ad,rfl,hab,hc⟩:=HMC.out.row.at_ hlt;have HNO:=zH (fun g:(fun i:Int×Int×Int=>zZ m x i.1 i.2.1 i.2.2) x.code[k]=false=>(vK hlt g:Vm m x=false));have HYE:=zH (fun g:(fun i:Int×Int×Int=>zZ m x i.1 i.2.1 i.2.2) x.code[k]=true=>vH hlt HN.out g);have H0:=zH (HU.out.c _ (Xf hlt));generalize x.code[k]=ins at*
   obtain⟨op,a,b⟩:=ins;have HR:Hid (∀W,Below w1.heap.size w1 W→W.cell? (ad.add (k*3))=some (.int .i64 op)∧W.cell? (zf (ad.add (k*3)) 1)=some (.int .i64 a)∧W.cell? (zf (ad.add (k*3)) 2)=some (.int .i64 b)):=zH (fun W hW=>qi.keeps (x:=(op,a,b)) hc (by rw[zu];exact hab) (zn _) (fun _ hq=>hW.cell hq));obtain⟨t0,t1,t2⟩:=HR.out _ HX.out;have HM2:=HM;go_upto_region 6 with fail
   have HIB:=zH (qr wr [.int .i64 op,.int .i64 a,.int .i64 b] 55);have HX:=zH (HX.out.alloc HX.out.size (.cells ([.int .i64 op,.int .i64 a,.int .i64 b]:List Value).toArray 55));clear kq0 kq1 kq2 kq3 kq4 kq5 kq6 kp0 kp1 kp2 kp3 kp4 kp5 kp6 kp7 t0 t1 t2;have HIB:Hid (zW (wr.alloc (.cells ([.int .i64 op,.int .i64 a,.int .i64 b]:List Value).toArray 55)) wr.heap.size [.int .i64 op,.int .i64 a,.int .i64 b]):=HIB;generalize wr.alloc (.cells ([.int .i64 op,.int .i64 a,.int .i64 b]:List Value).toArray 55)=w4 at*
   generalize wr.heap.size=gi at*
   obtain⟨i0,i1,i2⟩:=qw HIB.out;obtain⟨kq0,kq1,kq2,kq3,kq4,kq5,kq6⟩:=ck7 (HQ.out.keep HX.out HQZ.out);obtain⟨kp0,kp1,kp2,kp3,kp4,kp5,kp6,kp7⟩:=zY (HP.out.keep HX.out HPZ.out);have HXa:=HX;obtain⟨g,hg⟩:∃g,zZ m x op a b=g:=⟨_,rfl⟩
   have G:=zH hg;clear hg hc;cases g
   ·have E2:=zH (show vi m x=false by unfold vi;rw[show Vm m x=false from HNO.out G.out];simp);go_wp2_with((go_at_call 133;(with_reducible refine(qax HI HM2 HK HXa HT HU HS H0 G).mono ?_);rintro e w5 ⟨rfl,hb⟩;have HX:=zj HXa hb;obtain⟨kq0,kq1,kq2,kq3,kq4,kq5,kq6⟩:=ck7 (HQ.out.keep HX.out HQZ.out);obtain⟨kp0,kp1,kp2,kp3,kp4,kp5,kp6,kp7⟩:=zY (HP.out.keep HX.out HPZ.out);clear hb))
    go_ret;exact⟨by rw[E2.out];rfl,HW.out.trans (HX.out.mono HZw.out)⟩
   ·have E2:=zH (HYE.out G.out);go_wp2_with((go_at_call 133;(with_reducible refine(qax HI HM2 HK HXa HT HU HS H0 G).mono ?_);rintro e w5 ⟨rfl,hb⟩;have HX:=zj HXa hb;obtain⟨kq0,kq1,kq2,kq3,kq4,kq5,kq6⟩:=ck7 (HQ.out.keep HX.out HQZ.out);obtain⟨kp0,kp1,kp2,kp3,kp4,kp5,kp6,kp7⟩:=zY (HP.out.keep HX.out HPZ.out);clear hb))
    go_roundw;case rel=>exact⟨k+1,by omega,by go_num,E2,HX⟩
    case measure=>simp[intOf];omega
  ·have HCA:=zH (show Vm m x=true from vL (l:=x.code) HN.out (by omega));have E2:=zH (show vi m x=true by unfold vi;rw[HCA.out,Xm Cc1.out,Xm Cc2.out,Xm Cc3.out];rfl);go_wp2_with fail
   go_ret;exact⟨by rw[E2.out];rfl,HW.out.trans (HX.out.mono HZw.out)⟩
end Go.Proofs.YtcmiljnbmgkdnaaGreat
