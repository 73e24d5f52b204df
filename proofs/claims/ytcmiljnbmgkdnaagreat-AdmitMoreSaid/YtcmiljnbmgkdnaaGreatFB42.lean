import Derived.Test.YtcmiljnbmgkdnaaGreatFB41
import Derived.Test.YtcmiljnbmgkdnaaGreatFB33
namespace Go.Proofs.YtcmiljnbmgkdnaaGreat
set_option maxRecDepth 100000
set_option linter.unusedVariables false
set_option linter.unusedSimpArgs false
open Go.ChangeShapes Go.WideShapes Go.ChangeAt Go.RowKit
theorem q7z{m:za}{l l':List (List zo)}(h:Zp m l)(g:Zp m l'):l=l':=by
 refine We (h.1.trans g.1.symm) fun i h1 h2=> ?_;exact(h.2 i _ (Xc h1)).2.uniq (g.2 i _ (Xc h2)).2
theorem qfl{m:za}{l:List (List zo)}(h:Zp m l):Jy m l=true:=q9h.mpr ⟨h.1,fun f hf=>by
 have:=(h.2 f _ (Xc hf)).2.right;rw[Xc hf];exact this⟩
theorem q4u{m:za}{l:List (List zo)}(h:Zp m l)(g:q1r m):False:=by
 have:=g l;rw[qfl h]at this;cases this
def kB(m:za)(er:Int)(n:Nat)(T:List (List zo)→Prop):Prop:=
 (qR m≠0∧er=qR m∧n=0)∨(qR m=0∧er=4∧n=0∧q1r m)∨(qR m=0∧∃l,Zp m l∧er=jd m l∧(er≠0→n=0)∧(er=0→n=l.length∧T l))
theorem qcb(m:za)(l:List (List zo)):jd m l=5∨jd m l=6∨jd m l=7∨(jd m l=0∧jE m=true∧jF m l<0∧Vj m l=false):=by
 unfold jd;split
 ·exact .inl rfl
 ·rename_i h1;split
  ·exact .inr (.inl rfl)
  ·rename_i h2;split
   ·exact .inr (.inr (.inl rfl))
   ·rename_i h3;refine .inr (.inr (.inr ⟨rfl,?_,by omega,?_⟩))
    ·simpa using h1
    ·simpa using h3
theorem q18{m:za}{er:Int}{n:Nat}{T:List (List zo)→Prop}(h:kB m er n T):(er≠0→n=0)∧(er=0→∃l,Zp m l∧n=l.length∧T l∧qR m=0∧jE m=true∧jF m l<0∧Vj m l=false):=by
 rcases h with⟨h1,rfl,h3⟩|⟨h1,rfl,h3,h4⟩|⟨h1,l,h2,rfl,h4,h5⟩
 ·exact⟨fun _=>h3,fun e=>absurd e h1⟩
 ·exact⟨fun _=>h3,fun e=>by cases e⟩
 ·refine⟨h4,fun e=> ?_⟩;obtain⟨h6,h7⟩:=h5 e;rcases qcb m l with q|q|q|⟨_,q1,q2,q3⟩
  ·rw[q]at e;cases e
  ·rw[q]at e;cases e
  ·rw[q]at e;cases e
  ·exact⟨l,h2,h6,h7,h1,q1,q2,q3⟩
theorem qaj{m:za}{er er':Int}{n n':Nat}{T T':List (List zo)→Prop}(h:kB m er n T)(g:kB m er' n' T'):er=er':=by
 rcases h with⟨h1,h2,_⟩|⟨h1,h2,_,h4⟩|⟨h1,l,h2,h3,_⟩
 ·rcases g with⟨_,g2,_⟩|⟨g1,_⟩|⟨g1,_⟩
  ·rw[h2,g2]
  ·exact absurd g1 h1
  ·exact absurd g1 h1
 ·rcases g with⟨g1,_⟩|⟨_,g2,_⟩|⟨_,l,g2,_⟩
  ·exact absurd h1 g1
  ·rw[h2,g2]
  ·exact(q4u g2 h4).elim
 ·rcases g with⟨g1,_⟩|⟨_,_,_,g4⟩|⟨_,l',g2,g3,_⟩
  ·exact absurd h1 g1
  ·exact(q4u h2 g4).elim
  ·rw[h3,g3,q7z h2 g2]
section
variable{m:za}{s h:Int}
theorem qhx{l:List (List zo)}(H:Zp m l):Zp (qJ m s h) l:=⟨H.1,fun i S hS=>⟨qdi (H.2 i S hS).1,qsu (H.2 i S hS).2⟩⟩
end
theorem qu4{m:za}{er:Int}{n:Nat}{T:List (List zo)→Prop}{l:List (List zo)}(h:kB m er n T)(hs:qR m=0)(hl:Zp m l):er=jd m l:=
 qaj h (n':=if jd m l=0 then l.length else 0) (T':=fun _=>True) (.inr (.inr ⟨hs,l,hl,rfl,fun e=>Xa e,fun e=>⟨Xb e,trivial⟩⟩))
theorem qca{m:za}{l:List (List zo)}{s h:Int}(hr:jE m=true)(hp:jF m l<0):jd (qJ m s h) l=if(decide (YL m l>s)||decide (YX m>h))=true then 7 else 0:=by
 have e1:jE (qJ m s h)=true:=hr;have e2:jF (qJ m s h) l<0:=hp;unfold jd;rw[Xa (by rw[e1];decide),Xa (by omega)];rfl
theorem Jk{m:za}{e f:Int}{n k:Nat}{T T':List (List zo)→Prop}{s h:Int}(hA:kB m e n T)(hB:kB (qJ m s h) f k T')(hs:qR (qJ m s h)=qR m)(h1:m.stack≤s)(h2:m.heap≤h):(e=0∧f=0)∨(e≠0∧f=0)∨(e≠0∧f≠0∧e=f):=by
 rcases hA with⟨a1,a2,_⟩|⟨a1,a2,_,a4⟩|⟨a1,l,a2,a3,_⟩
 ·rcases hB with⟨b1,b2,_⟩|⟨b1,_⟩|⟨b1,_⟩
  ·exact .inr (.inr ⟨by rw[a2];exact a1,by rw[b2];exact b1,by rw[a2,b2,hs]⟩)
  ·rw[hs]at b1;exact absurd b1 a1
  ·rw[hs]at b1;exact absurd b1 a1
 ·rcases hB with⟨b1,_⟩|⟨_,b2,_⟩|⟨_,l,b2,_⟩
  ·rw[hs]at b1;exact absurd a1 b1
  ·exact .inr (.inr ⟨by rw[a2];decide,by rw[b2];decide,by rw[a2,b2]⟩)
  ·exact(q4u b2 a4).elim
 ·have hf:=qu4 hB (hs.trans a1) (qhx a2);rcases qcb m l with q|q|q|⟨q,q1,q2,q3⟩
  ·have hr:jE m=false:=by
    unfold jd at q;by_cases z:jE m=false
    ·exact z
    ·rw[Xa z]at q;split at q
     ·cases q
     ·split at q<;>cases q
   have:jd (qJ m s h) l=5:=by
    have e1:jE (qJ m s h)=false:=hr;unfold jd;rw[Xb e1]
   exact .inr (.inr ⟨by rw[a3,q];decide,by rw[hf,this];decide,by rw[a3,q,hf,this]⟩)
  ·have hr:jE m=true∧0≤jF m l:=by
    unfold jd at q;by_cases z:jE m=false
    ·rw[Xb z]at q;cases q
    ·rw[Xa z]at q;by_cases y:0≤jF m l
     ·exact⟨by simpa using z,y⟩
     ·rw[Xa y]at q;split at q<;>cases q
   have:jd (qJ m s h) l=6:=by
    have e1:jE (qJ m s h)=true:=hr.1;have e2:0≤jF (qJ m s h) l:=hr.2;unfold jd;rw[Xa (by rw[e1];decide),Xb e2]
   exact .inr (.inr ⟨by rw[a3,q];decide,by rw[hf,this];decide,by rw[a3,q,hf,this]⟩)
  ·have hr:jE m=true∧jF m l<0:=by
    unfold jd at q;by_cases z:jE m=false
    ·rw[Xb z]at q;cases q
    ·rw[Xa z]at q;by_cases y:0≤jF m l
     ·rw[Xb y]at q;cases q
     ·exact⟨by simpa using z,by omega⟩
   have:=qca (s:=s) (h:=h) hr.1 hr.2;rw[←hf]at this;by_cases z:(decide (YL m l>s)||decide (YX m>h))=true
   ·rw[Xb z]at this;exact .inr (.inr ⟨by rw[a3,q];decide,by rw[this];decide,by rw[a3,q,this]⟩)
   ·rw[Xa z]at this;exact .inr (.inl ⟨by rw[a3,q];decide,this⟩)
  ·have:=qca (s:=s) (h:=h) q1 q2;unfold Vj at q3;rw[Bool.or_eq_false_iff,Wg,Wg]at q3;rw[←hf,Xa (by rw[Wf,Xt,Xt];omega)]at this;exact .inl ⟨by rw[a3,q],this⟩
theorem jK.mono:kN jK:=fun _ _ _ _ p _ h hp hC hc=>⟨hc _ _ hp h.1,zI.mono zc.mono 2 h.2 hp hC hc⟩
theorem qbv{S:Nat→Bool}{w:World}{b:Nat}(h:S b=false):(qt S w).heap[b]? =w.heap[b]? :=by
 unfold qt;simp[h]
theorem qsc{w0 w:World}{e n k:Nat}{v:Value}{xs:List Value}(h:w.ownsRow w0.heap.size e k v n xs):(qt (old w0) w).ownsRow w0.heap.size e k v n xs:=by
 rcases h with⟨h1,h2|⟨g,cap,cur,h2,h3,h4,h5⟩⟩
 ·exact⟨h1,.inl h2⟩
 ·exact⟨h1,.inr ⟨g,cap,cur,h2,h3,(qbv (kS.mpr h3)).trans h4,h5⟩⟩
theorem qse{w0 w:World}{g:Nat}{X:List zr}(h:qS w g X)(hg:w0.heap.size≤g)(hn:JG w0.heap.size X):qS (qt (old w0) w) g X:=
 ⟨(qbv (kS.mpr hg)).trans h.blk,fun x hx=>⟨(h.row x hx).le,(h.row x hx).cap,fun i t hi=>by
  obtain⟨ad,e,hb,h0,h1⟩:=(h.row x hx).row i t hi;have hb2:=hn x hx (fun q=>by rw[q]at hi;cases hi) ad e;refine⟨ad,e,by rw[Zm];exact hb,Jm.mpr ⟨kS.mpr (by rw[zu];exact hb2),h0⟩,Jm.mpr ⟨kS.mpr (by show _≤(ad.add (i*2)).block;rw[zu];exact hb2),h1⟩⟩⟩⟩
def ZI(m:za)(w0 w:World)(A:Option Addr)(c:Nat)(l:List (List zo)):Prop:=jy m (qt (old w0) w) A c l
theorem ZI.in_{m:za}{w0 w:World}{A:Option Addr}{c:Nat}{l:List (List zo)}(h:ZI m w0 w A c l):jy m w A c l:=by
 have h1:=h.1;rw[Zm]at h1;exact⟨h1.of_hole (zI.mono jK.mono 2),h.2⟩
theorem ZI.to{m:za}{w0 w1 w w':World}{A:Option Addr}{c:Nat}{l:List (List zo)}(h:ZI m w0 w A c l)(hw:w1.heap.size≤w0.heap.size)(hz:w.heap.size≤w'.heap.size)(hs:∀b,b<w.heap.size→w0.heap.size≤b→w'.heap[b]? =w.heap[b]?):ZI m w1 w' A c l:=by
 have h1:=h.1;rw[Zm]at h1;refine⟨?_,h.2⟩;rw[Zm];exact h1.hole (zI.mono jK.mono 2) hz fun b hb hs'=>⟨kS.mpr (Xd hw (kS.mp hs')),hs b hb (kS.mp hs')⟩
theorem ZI.now{m:za}{w0 w w':World}{A:Option Addr}{c:Nat}{l:List (List zo)}(h:ZI m w0 w A c l)(hb:Below w.heap.size w w'):ZI m w0 w' A c l:=
 h.to (zn _) hb.size fun b hb' _=>hb.block b hb'
theorem qg8(m:za)(h:zi)(w:World)(H:zm w w.heap.size h m)(hm:zN m):
  Calls Tryz.prog 22 #[zp h m] w fun e w'=>∃(A:Option Addr) (n c:Nat) (f pc er:Int),e= .returned (.tuple #[.slice A n c,.int .i64 f,.int .i64 pc,.int .i64 er])∧Below w.heap.size w w'∧(er=0∨er=4)∧(¬er=0→q1r m)∧(er=0→∃l,l.length=n∧ZI m w w' A c l∧Zp m l):=by
 refine(qgy m h w H hm (by have:=hm.fits.ml;omega)).mono fun e w' ⟨A,n,c,f,pc,er,h1,h2,h3,h4,h5⟩=>⟨A,n,c,f,pc,er,h1,h2,h3,h4,fun he=> ?_⟩
 obtain⟨XS,a1,a2,a3,a4,a5,a6⟩:=h5 he;have ha4:Qm (qt (old w) w') (.slice A n c) XS:=⟨fun p hp=>qse (a4.outs p hp) (a5 p hp).1 (a5 p hp).2,a4.apart,a4.diff,fun g hg q hq k v hc=>a4.dry g hg q hq k v (Jm.mp hc).2⟩
 exact qmw (w:=w) hm a1 a2 (qsc a3) ha4 (fun p hp=>(a5 p hp).1) fun i p hp=>⟨(a6 i p hp).set,a6 i p hp⟩
theorem qno{m:za}{h:zi}{w0 w:World}{r:Int}(HI:Hid (zm w0 w0.heap.size h m))(HX:Hid (Below w0.heap.size w0 w))(HR:Hid (qR m=r)):
  Calls Tryz.prog 21 #[zp h m] w fun e w'=>e= .returned (.int .i64 r)∧Below w.heap.size w w':=by
 have H:=qj4 m h w (HI.out.now HX.out);rw[HR.out]at H;exact H
theorem qn3{m:za}{h:zi}{w0 w:World}(HI:Hid (zm w0 w0.heap.size h m))(HX:Hid (Below w0.heap.size w0 w))(HM:Hid (zN m)):
  Calls Tryz.prog 22 #[zp h m] w fun e w'=>∃(A:Option Addr) (n c:Nat) (f pc er:Int),e= .returned (.tuple #[.slice A n c,.int .i64 f,.int .i64 pc,.int .i64 er])∧Below w.heap.size w w'∧(er=0∨er=4)∧(¬er=0→q1r m)∧(er=0→∃l,l.length=n∧ZI m w w' A c l∧Zp m l):=
 qg8 m h w (HI.out.now HX.out) HM.out
theorem qqy{m:za}{l:List (List zo)}{A:Option Addr}{c k:Nat}{h:zi}{w0 w:World}(HI:Hid (zm w0 w0.heap.size h m))(HX:Hid (Below w0.heap.size w0 w))(HS:Hid (Zt m=true))(HT:Hid (jy m w A c l))(HK:Hid (l.length=k)):
  Calls Tryz.prog 12 #[zp h m,.slice A k c] w (qcf m l w):=by
 obtain rfl:=HK.out;exact qai m l A c h w (HI.out.now HX.out) HS.out HT.out
theorem qo6{m:za}{l:List (List zo)}{A:Option Addr}{c k:Nat}{h:zi}{w0 w:World}(HI:Hid (zm w0 w0.heap.size h m))(HX:Hid (Below w0.heap.size w0 w))(HS:Hid (Zt m=true))(HT:Hid (jy m w A c l))(HK:Hid (l.length=k)):
  Calls Tryz.prog 23 #[zp h m,.slice A k c] w fun e w'=>∃f er:Int,e= .returned (.tuple #[.int .i64 f,.int .i64 er])∧Below w.heap.size w w'∧(0≤jF m l→er=6)∧(¬0≤jF m l→er=0):=by
 obtain rfl:=HK.out;refine(qjp m l A c h w (HI.out.now HX.out) HS.out HT.out).mono fun e w' ⟨he,hb⟩=>⟨_,_,he,hb,fun h=>Xb h,fun h=>Xa h⟩
def qcg(m:za)(w:World)(e:Ending)(w':World):Prop:=∃A n c er,e= .returned (.tuple #[.slice A n c,.int .i64 er])∧Below w.heap.size w w'∧kB m er n (ZI m w w' A c)
theorem kB.mono{m:za}{er:Int}{n:Nat}{T T':List (List zo)→Prop}(h:kB m er n T)(ht:∀l,T l→T' l):kB m er n T':=by
 rcases h with q|q|⟨h1,l,h2,h3,h4,h5⟩
 ·exact .inl q
 ·exact .inr (.inl q)
 ·exact .inr (.inr ⟨h1,l,h2,h3,h4,fun e=>⟨(h5 e).1,ht l (h5 e).2⟩⟩)
theorem q7t{P:Prop}(h:P:=by
 go_wp2_with fail
 refine Xl (v:= .tuple #[.slice none 0 0,.int .i64 7]) (by simp[results,Tryz.results10,go_sem]) rfl ?_;exact⟨none,0,0,7,rfl,HW.out.trans (HX5.out.mono (Xh HZ.out)),.inr (.inr ⟨HR.out,l,HFA.out,HE.out.symm,fun _=>rfl,(fun e=>by cases e)⟩)⟩):P:=h
set_option maxHeartbeats 6400000 in
theorem q2p(m:za)(h:zi)(w:World)(H:zm w w.heap.size h m):
  Calls Tryz.prog 10 #[zp h m] w (qcg m w):=by
 have HW:=zH (vr (w:=w) (h:=h) (m:=m));have HBX:=zH (ql w h m);have HZ:Hid (w.heap.size<(w.alloc (zg h m)).heap.size):=zH (by simp);have HI:=zH (H.now HW.out);obtain⟨r,hr⟩:∃z,qR m=z:=⟨_,rfl⟩
 have HR:=zH hr;clear H hr;go_enter Tryz.func10,Tryz.ntmps10;go_upto_region 1 with fail
 generalize w.alloc (zg h m)=w1 at*
 obtain⟨q0,q1,q2,q3,q4,q5,q6⟩:=HBX.out;have HX:Hid (Below w1.heap.size w1 w1):=zH (zb _ _);go_upto_region 2 with(go_at_call 21;(with_reducible refine(qno HI HX HR).mono ?_);rintro e w2 ⟨rfl,hb⟩;have HX2:=zj HX hb;clear hb)
 clear q0 q1 q2 q3 q4 q5 q6;obtain⟨q0,q1,q2,q3,q4,q5,q6⟩:=HBX.out.keep HX2.out HZ.out;by_cases hr0:r=0;rotate_left
 ·have hne:(r !=0)=true:=XC.mpr hr0;have HN:Hid (r≠0):=zH hr0;clear hr0;go_wp2_with fail
  refine Xl (v:= .tuple #[.slice none 0 0,.int .i64 r]) (by simp[results,Tryz.results10,go_sem]) rfl ?_;exact⟨none,0,0,r,rfl,HW.out.trans (HX2.out.mono (Xh HZ.out)),.inl ⟨by rw[HR.out];exact HN.out,HR.out.symm,rfl⟩⟩
 subst hr0;have HS:=zH (qb2 HR.out);have HM:=zH (q1y HR.out);go_upto_region 5 with(go_at_call 22;(with_reducible refine(qn3 HI HX2 HM).mono ?_);rintro e w3 ⟨Al,nl,cl,f1,p1,er,rfl,hb,hor,hno,hyes⟩;have HX3:=zj HX2 hb;have HOR:=zH hor;have HNO:=zH hno;have HYES:=zH hyes;clear hb hor hno hyes)
 clear q0 q1 q2 q3 q4 q5 q6;obtain⟨q0,q1,q2,q3,q4,q5,q6⟩:=HBX.out.keep HX3.out HZ.out;by_cases he0:er=0;rotate_left
 ·obtain rfl:er=4:=HOR.out.resolve_left he0;have HNM:=zH (HNO.out he0);clear he0;go_wp2_with fail
  refine Xl (v:= .tuple #[.slice none 0 0,.int .i64 4]) (by simp[results,Tryz.results10,go_sem]) rfl ?_;exact⟨none,0,0,4,rfl,HW.out.trans (HX3.out.mono (Xh HZ.out)),.inr (.inl ⟨HR.out,rfl,rfl,HNM.out⟩)⟩
 subst he0;obtain⟨l,hll,hty,hfa⟩:=HYES.out rfl;have HTN:=zH hty;have HT:=zH hty.in_;have HZ2:Hid (w.heap.size≤w2.heap.size):=zH (Xd HW.out.size HX2.out.size);have HFA:=zH hfa;have HLL:=zH hll;clear hll hty hfa HYES HNO HOR;go_upto_region 8 with(go_at_call 12;(with_reducible refine(qqy HI HX3 HS HT HLL).mono ?_);rintro e w4 ⟨sn,pn,e2,rfl,hb,hno,hyes⟩;have HB4:=zH hb;have HX4:=zj HX3 hb;have HNO:=zH hno;have HYES:=zH hyes;clear hb hno hyes)
 clear q0 q1 q2 q3 q4 q5 q6;obtain⟨q0,q1,q2,q3,q4,q5,q6⟩:=HBX.out.keep HX4.out HZ.out;by_cases hrb:jE m=true;rotate_left
 ·have hrb:jE m=false:=by simpa using hrb
  obtain rfl:=HNO.out hrb;have HE:Hid (jd m l=5):=zH (by unfold jd;rw[Xb hrb]);clear hrb;go_wp2_with fail
  refine Xl (v:= .tuple #[.slice none 0 0,.int .i64 5]) (by simp[results,Tryz.results10,go_sem]) rfl ?_;exact⟨none,0,0,5,rfl,HW.out.trans (HX4.out.mono (Xh HZ.out)),.inr (.inr ⟨HR.out,l,HFA.out,HE.out.symm,fun _=>rfl,(fun e=>by cases e)⟩)⟩
 obtain⟨rfl,hs1,hs2⟩:=HYES.out hrb;have HSN:=zH hs1;have HPN:=zH hs2;have HRB:=zH hrb;have HTN4:=zH (HTN.out.now HB4.out);have HT4:=zH HTN4.out.in_;clear hs1 hs2 HYES HNO hrb;go_upto_region 11 with(go_at_call 23;(with_reducible refine(qo6 HI HX4 HS HT4 HLL).mono ?_);rintro e w5 ⟨f5,e5,rfl,hb,hp1,hp2⟩;have HB5:=zH hb;have HX5:=zj HX4 hb;have HP1:=zH hp1;have HP2:=zH hp2;clear hb hp1 hp2)
 clear q0 q1 q2 q3 q4 q5 q6;obtain⟨q0,q1,q2,q3,q4,q5,q6⟩:=HBX.out.keep HX5.out HZ.out;by_cases hp0:0≤jF m l
 ·obtain rfl:=HP1.out hp0;have HE:Hid (jd m l=6):=zH (by unfold jd;rw[Xa (by rw[HRB.out];decide),Xb hp0]);clear hp0;go_wp2_with fail
  refine Xl (v:= .tuple #[.slice none 0 0,.int .i64 6]) (by simp[results,Tryz.results10,go_sem]) rfl ?_;exact⟨none,0,0,6,rfl,HW.out.trans (HX5.out.mono (Xh HZ.out)),.inr (.inr ⟨HR.out,l,HFA.out,HE.out.symm,fun _=>rfl,(fun e=>by cases e)⟩)⟩
 obtain rfl:=HP2.out (by first|exact hp0|omega);have HAE:Hid (jd m l=if Vj m l=true then 7 else 0):=zH (by unfold jd;rw[Xa (by rw[HRB.out];decide),Xa hp0]);have HQB:Hid (Vj m l=(decide (sn>m.stack)||decide (pn>m.heap))):=zH (by unfold Vj;rw[HSN.out,HPN.out]);clear hp0 HP1 HP2;by_cases h1:sn>m.stack
 ·have HE:Hid (jd m l=7):=zH (by rw[HAE.out,Xb (by rw[HQB.out,Xm h1];rfl)]);exact q7t
 by_cases h2:pn>m.heap
 ·have HE:Hid (jd m l=7):=zH (by rw[HAE.out,Xb (by rw[HQB.out,Xm h2,Bool.or_true])]);exact q7t
 ·have HE:Hid (jd m l=0):=zH (by rw[HAE.out,Xa (by rw[HQB.out,Xg h1,Xg h2];decide)]);have HT5:=zH ((HTN4.out.now HB5.out).to HZ2.out (zn _) (fun _ _ _=>rfl));go_wp2_with fail
  refine Xl (v:= .tuple #[.slice Al nl cl,.int .i64 0]) (by simp[results,Tryz.results10,go_sem]) rfl ?_;exact⟨Al,nl,cl,0,rfl,HW.out.trans (HX5.out.mono (Xh HZ.out)),.inr (.inr ⟨HR.out,l,HFA.out,HE.out.symm,fun e=>absurd rfl e,fun _=>⟨HLL.out.symm,HT5.out⟩⟩)⟩
theorem qmh(m:za)(h:zi)(w:World)(H:zm w w.heap.size h m):
  Calls Tryz.prog 10 #[zp h m] w (quc m w):=
 (q2p m h w H).mono fun _ _ ⟨A,n,c,er,h1,h2,h3⟩=>⟨A,n,c,er,h1,h2,h3.mono fun _ q=>q.in_⟩
end Go.Proofs.YtcmiljnbmgkdnaaGreat
