import Derived.Test.YtcmiljnbmgkdnaaGreatFB42
import Derived.Test.YtcmiljnbmgkdnaaGreatFB17
import Derived.Test.YtcmiljnbmgkdnaaGreatFB21
namespace Go.Proofs.YtcmiljnbmgkdnaaGreat
set_option maxRecDepth 100000
set_option linter.unusedVariables false
set_option linter.unusedSimpArgs false
open Go.ChangeShapes Go.WideShapes Go.ChangeAt Go.RowKit
def qch(L:List Int)(w:World)(e:Ending)(w':World):Prop:=
 ∃(h:zi) (x:za) (A:Option Addr) (n c:Nat) (er:Int),e= .returned (.tuple #[zp h x,.slice A n c,.int .i64 er])∧zm w' w'.heap.size h x∧Below w.heap.size w w'∧
  ∃x0 ed,Yq L x0 ed∧(∀i ∈x0.ints,OkL i)∧((ed≠0∧er=2∧x=jv∧n=0)∨(ed=0∧kB x0 er n (jy x0 w' A c)∧(er=0→x=x0)∧(er≠0→x=jv)))
structure Vh(w:World)(A:Option Addr)(c:Nat)(L:List Int):Prop where
 len:L.length≤1048576
 le:L.length≤c
 cap:c≤9223372036854775807
 rng:∀b ∈L,0≤b∧b≤255
 none:A=none→c=0
 lie:zq w w.heap.size A (L.map (Value.int .u8))
theorem Vh.keep{w w':World}{A:Option Addr}{c:Nat}{L:List Int}(h:Vh w A c L)(hb:Below w.heap.size w w'):Vh w' A c L:=⟨h.len,h.le,h.cap,h.rng,h.none,qss h.lie hb⟩
theorem qkl{w:World}{A:Option Addr}{c n:Nat}{L:List Int}(H:Hid (Vh w A c L))(HN:Hid (L.length=n)):Calls Tryz.prog 43 #[.slice A n c] w (qff L w):=by
 obtain rfl:=HN.out;exact qhr L A c w.heap.size w H.out.len H.out.le H.out.cap H.out.rng H.out.none (zn _) H.out.lie
theorem qr7{m:za}{h:zi}{w:World}(HI:Hid (zm w w.heap.size h m)):Calls Tryz.prog 10 #[zp h m] w (qcg m w):=q2p m h w HI.out
theorem kB.err{m:za}{er:Int}{n:Nat}{T T':List (List zo)→Prop}(h:kB m er n T)(he:er≠0):kB m er n T':=by
 rcases h with q|q|⟨h1,l,h2,h3,h4,_⟩
 ·exact .inl q
 ·exact .inr (.inl q)
 ·exact .inr (.inr ⟨h1,l,h2,h3,h4,fun e=>absurd e he⟩)
set_option maxHeartbeats 6400000 in
theorem qmi(L:List Int)(A:Option Addr)(c:Nat)(w:World)(hl:L.length≤1048576)(hc:L.length≤c)(hcap:c≤9223372036854775807)(hr:∀b ∈L,0≤b∧b≤255)(hA:A=none→c=0)(h:zq w w.heap.size A (L.map (Value.int .u8))):
  Calls Tryz.prog 17 #[.slice A L.length c] w (qch L w):=by
 have HW:=zH ((zb w.heap.size w).alloc (zn _) je);have HZ:Hid (w.heap.size<(w.alloc je).heap.size):=zH (by simp);have HJ0:Hid ((w.alloc je).heap[w.heap.size]? =some (.cells q41.toArray 28 (0,0))):=zH (Xw _ _);have HB:=zH ((⟨hl,hc,hcap,hr,hA,h⟩:Vh w A c L).keep HW.out);obtain⟨n,hn⟩:∃z,L.length=z:=⟨_,rfl⟩
 have HN:=zH hn;rw[hn];clear hl hc hcap hr hA h hn;go_enter Tryz.func17,Tryz.ntmps17;go_upto_region 1 with fail
 generalize w.alloc je=w1 at*
 go_upto_region 2 with(go_at_call 43;(with_reducible refine(qkl HB HN).mono ?_);rintro e w2 ⟨hh,x0,ed,rfl,hi,hb,hd⟩;have HI2:=zH hi;have HX2:=zH hb;have HD:=zH hd;clear hi hb hd)
 have hA3:Below w2.heap.size w2 (w2.alloc (zg hh x0)):=(zb _ _).alloc (zn _) _;have HBX:=zH (ql w2 hh x0);have HZ3:Hid (w2.heap.size<(w2.alloc (zg hh x0)).heap.size):=zH (by simp);have HIH:=zH (YW (S':=old w1) HI2.out hA3.size fun b hb hs=>⟨hs,hA3.block b hb⟩);have HI3:=zH (q2c HIH.out);have HX3:=zj HX2 hA3;have HJ3:=zH ((HX3.out.block _ HZ.out).trans HJ0.out);have HOK:Hid (∀i ∈x0.ints,OkL i):=zH (q7l HI3.out);obtain⟨N3,hN3⟩:∃z,w2.heap.size=z:=⟨_,rfl⟩
 clear hA3;simp only[hN3]at HBX HZ3⊢
 clear hN3;generalize w2.alloc (zg hh x0)=w3 at*
 by_cases h0:ed=0;rotate_left
 ·obtain⟨rfl,rfl⟩:ed=2∧x0=jv:=by
   rcases HD.out with⟨q,_⟩|⟨q,q2,_⟩
   ·exact absurd q h0
   ·exact⟨q,q2⟩
  have JJ:=HJ3.out;have p0:=zk JJ 0 _ rfl;have p1:=zk JJ 1 _ rfl;have p2:=zk JJ 2 _ rfl;have p3:=zk JJ 3 _ rfl;have p4:=zk JJ 4 _ rfl;have p5:=zk JJ 5 _ rfl;have p6:=zk JJ 6 _ rfl;have g0:=zB JJ 0;have g1:=zB JJ 1;have g2:=zB JJ 2;have g3:=zB JJ 3;have g4:=zB JJ 4;have g5:=zB JJ 5;have g6:=zB JJ 6;clear JJ h0;go_wp2_with fail
  refine Xl (v:= .tuple #[zp ZY jv,.slice none 0 0,.int .i64 2]) (by simp[results,Tryz.results17,go_sem,p0,p1,p2,p3,p4,p5,p6,jv]) rfl ?_;exact⟨ZY,jv,none,0,0,2,rfl,q00 _ _,YH (HW.out.trans (HX3.out.mono HW.out.size)) _ _ _ _ _ _ _,jv,2,HD.out,HOK.out,.inl ⟨by decide,rfl,rfl,rfl⟩⟩
 subst h0;obtain⟨q0,q1,q2,q3,q4,q5,q6⟩:=HBX.out;go_upto_region 5 with(go_at_call 10;(with_reducible refine(qr7 HI3).mono ?_);rintro e w4 ⟨Aa,na,ca,er,rfl,hb,ha⟩;have HA:=zH ha;have HX4:=zj HX3 hb;have HBX4:=zH (HBX.out.keep hb HZ3.out);have HIH4:=zH (YW (S':=old w1) HIH.out hb.size fun b hb' hs=>⟨hs,hb.block b hb'⟩);have HJ4:=zH ((hb.block _ (Xj HZ.out HX3.out.size)).trans HJ3.out);clear hb ha)
 clear q0 q1 q2 q3 q4 q5 q6;have JJ:=HJ4.out;have p0:=zk JJ 0 _ rfl;have p1:=zk JJ 1 _ rfl;have p2:=zk JJ 2 _ rfl;have p3:=zk JJ 3 _ rfl;have p4:=zk JJ 4 _ rfl;have p5:=zk JJ 5 _ rfl;have p6:=zk JJ 6 _ rfl;have g0:=zB JJ 0;have g1:=zB JJ 1;have g2:=zB JJ 2;have g3:=zB JJ 3;have g4:=zB JJ 4;have g5:=zB JJ 5;have g6:=zB JJ 6;clear JJ;by_cases he:er=0;rotate_left
 ·have hn0:na=0:=(q18 HA.out).1 he;subst hn0;have HE:=zH he;have hne:(er !=0)=true:=XC.mpr he;clear he;go_wp2_with fail
  refine Xl (v:= .tuple #[zp ZY jv,.slice none 0 0,.int .i64 er]) (by simp[results,Tryz.results17,go_sem,p0,p1,p2,p3,p4,p5,p6,jv]) rfl ?_;exact⟨ZY,jv,none,0,0,er,rfl,q00 _ _,YH (HW.out.trans (HX4.out.mono HW.out.size)) _ _ _ _ _ _ _,x0,0,HD.out,HOK.out,.inr ⟨rfl,HA.out.err HE.out,fun e=>absurd e HE.out,fun _=>rfl⟩⟩
 subst he;obtain⟨q0,q1,q2,q3,q4,q5,q6⟩:=HBX4.out;go_wp2_with fail
 refine Xl (v:= .tuple #[zp hh x0,.slice Aa na ca,.int .i64 0]) (by simp[results,Tryz.results17,go_sem,p0,p1,p2,p3,p4,p5,p6]) rfl ?_;have hz1:=HZ.out;have hz3:=HX3.out.size;refine⟨hh,x0,Aa,na,ca,0,rfl,q2c (YW (S':=old w1) HIH4.out (by simp) fun b hb hs=>⟨hs,q66 (by have:=kS.mp hs;omega) _ _ _ _ _ _ _⟩),YH (HW.out.trans (HX4.out.mono HW.out.size)) _ _ _ _ _ _ _,x0,0,HD.out,HOK.out,.inr ⟨rfl,HA.out.mono fun l q=> ?_,fun _=>rfl,fun e=>absurd rfl e⟩⟩;exact(q.to (zn _) (by simp) fun b _ hb=>q66 (by omega) _ _ _ _ _ _ _).in_
end Go.Proofs.YtcmiljnbmgkdnaaGreat
