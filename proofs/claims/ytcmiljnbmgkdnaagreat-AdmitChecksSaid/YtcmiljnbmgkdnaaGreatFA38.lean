import Derived.Test.YtcmiljnbmgkdnaaGreatFA37
import Derived.Test.YtcmiljnbmgkdnaaGreatFA29
namespace Go.Proofs.YtcmiljnbmgkdnaaGreat
set_option maxRecDepth 100000
set_option linter.unusedVariables false
set_option linter.unusedSimpArgs false
open Go.ChangeShapes Go.WideShapes Go.ChangeAt Go.RowKit
theorem q6v{m:za}{l l':List (List zm)}(h:kY m l)(g:kY m l'):l=l':=by
 refine Wl (h.1.trans g.1.symm) fun i h1 h2=> ?_;exact(h.2 i _ (Xc h1)).2.uniq (g.2 i _ (Xc h2)).2
theorem qew{m:za}{l:List (List zm)}(h:kY m l):Qz m l=true:=q8x.mpr ⟨h.1,fun f hf=>by
 have:=(h.2 f _ (Xc hf)).2.right;rw[Xc hf];exact this⟩
theorem q95{m:za}{l:List (List zm)}(h:kY m l)(g:q0t m):False:=by
 have:=g l;rw[qew h]at this;cases this
def Qe(m:za)(er:Int)(n:Nat)(T:List (List zm)→Prop):Prop:=
 (qK m≠0∧er=qK m∧n=0)∨(qK m=0∧er=4∧n=0∧q0t m)∨(qK m=0∧∃l,kY m l∧er=qV m l∧(er≠0→n=0)∧(er=0→n=l.length∧T l))
theorem qpu(m:za)(l:List (List zm)):qV m l=5∨qV m l=6∨qV m l=7∨(qV m l=0∧jr m=true∧jL m l<0∧QA m l=false):=by
 unfold qV;split
 ·exact .inl rfl
 ·rename_i h1;split
  ·exact .inr (.inl rfl)
  ·rename_i h2;split
   ·exact .inr (.inr (.inl rfl))
   ·rename_i h3;refine .inr (.inr (.inr ⟨rfl,?_,by omega,?_⟩))
    ·simpa using h1
    ·simpa using h3
theorem q29{m:za}{er:Int}{n:Nat}{T:List (List zm)→Prop}(h:Qe m er n T):(er≠0→n=0)∧(er=0→∃l,kY m l∧n=l.length∧T l∧qK m=0∧jr m=true∧jL m l<0∧QA m l=false):=by
 rcases h with⟨h1,rfl,h3⟩|⟨h1,rfl,h3,h4⟩|⟨h1,l,h2,rfl,h4,h5⟩
 ·exact⟨fun _=>h3,fun e=>absurd e h1⟩
 ·exact⟨fun _=>h3,fun e=>by cases e⟩
 ·refine⟨h4,fun e=> ?_⟩;obtain⟨h6,h7⟩:=h5 e;rcases qpu m l with q|q|q|⟨_,q1,q2,q3⟩
  ·rw[q]at e;cases e
  ·rw[q]at e;cases e
  ·rw[q]at e;cases e
  ·exact⟨l,h2,h6,h7,h1,q1,q2,q3⟩
theorem qa1{m:za}{er er':Int}{n n':Nat}{T T':List (List zm)→Prop}(h:Qe m er n T)(g:Qe m er' n' T'):er=er':=by
 rcases h with⟨h1,h2,_⟩|⟨h1,h2,_,h4⟩|⟨h1,l,h2,h3,_⟩
 ·rcases g with⟨_,g2,_⟩|⟨g1,_⟩|⟨g1,_⟩
  ·rw[h2,g2]
  ·exact absurd g1 h1
  ·exact absurd g1 h1
 ·rcases g with⟨g1,_⟩|⟨_,g2,_⟩|⟨_,l,g2,_⟩
  ·exact absurd h1 g1
  ·rw[h2,g2]
  ·exact(q95 g2 h4).elim
 ·rcases g with⟨g1,_⟩|⟨_,_,_,g4⟩|⟨_,l',g2,g3,_⟩
  ·exact absurd h1 g1
  ·exact(q95 h2 g4).elim
  ·rw[h3,g3,q6v h2 g2]
section
variable{m:za}{s h:Int}
theorem qgp{l:List (List zm)}(H:kY m l):kY (qC m s h) l:=⟨H.1,fun i S hS=>⟨qd2 (H.2 i S hS).1,qrr (H.2 i S hS).2⟩⟩
end
theorem qsy{m:za}{er:Int}{n:Nat}{T:List (List zm)→Prop}{l:List (List zm)}(h:Qe m er n T)(hs:qK m=0)(hl:kY m l):er=qV m l:=
 qa1 h (n':=if qV m l=0 then l.length else 0) (T':=fun _=>True) (.inr (.inr ⟨hs,l,hl,rfl,fun e=>Xa e,fun e=>⟨Xb e,trivial⟩⟩))
theorem qez(B:List Int)(L:List Int):0≤ka B L:=by
 have H:∀(L:List Int) (s:Int),0≤s→0≤L.foldl (Jp B) s:=by
  intro L
  induction L with
  |nil=>intro s hs;exact hs
  |cons t L ih=>
   intro s hs;refine ih _ ?_;unfold Jp;split<;>omega
 exact H L 0 (XR _)
theorem qrf{m:za}(hm:zK m)(l:List (List zm)):0≤Zj m l∧0≤kW m:=by
 refine⟨qez _ _,?_⟩;have:=(q21 hm m.entries).1;unfold kW;omega
theorem qpt{m:za}{l:List (List zm)}{s h:Int}(hr:jr m=true)(hp:jL m l<0):qV (qC m s h) l=if(decide (Zj m l>s)||decide (kW m>h))=true then 7 else 0:=by
 have e1:jr (qC m s h)=true:=hr;have e2:jL (qC m s h) l<0:=hp;unfold qV;rw[Xa (by rw[e1];decide),Xa (by omega)];rfl
theorem jp.mono:ZW jp:=fun _ _ _ _ p _ h hp hC hc=>⟨hc _ _ hp h.1,zG.mono zh.mono 2 h.2 hp hC hc⟩
theorem qbg{S:Nat→Bool}{w:World}{b:Nat}(h:S b=false):(vr S w).heap[b]? =w.heap[b]? :=by
 unfold vr;simp[h]
theorem qr9{w0 w:World}{e n k:Nat}{v:Value}{xs:List Value}(h:w.ownsRow w0.heap.size e k v n xs):(vr (old w0) w).ownsRow w0.heap.size e k v n xs:=by
 rcases h with⟨h1,h2|⟨g,cap,cur,h2,h3,h4,h5⟩⟩
 ·exact⟨h1,.inl h2⟩
 ·exact⟨h1,.inr ⟨g,cap,cur,h2,h3,(qbg (YQ.mpr h3)).trans h4,h5⟩⟩
theorem qra{w0 w:World}{g:Nat}{X:List zj}(h:qr w g X)(hg:w0.heap.size≤g)(hn:JK w0.heap.size X):qr (vr (old w0) w) g X:=
 ⟨(qbg (YQ.mpr hg)).trans h.blk,fun x hx=>⟨(h.row x hx).le,(h.row x hx).cap,fun i t hi=>by
  obtain⟨ad,e,hb,h0,h1⟩:=(h.row x hx).row i t hi;have hb2:=hn x hx (fun q=>by rw[q]at hi;cases hi) ad e;refine⟨ad,e,by rw[JR];exact hb,Jo.mpr ⟨YQ.mpr (by rw[zp];exact hb2),h0⟩,Jo.mpr ⟨YQ.mpr (by show _≤(ad.add (i*2)).block;rw[zp];exact hb2),h1⟩⟩⟩⟩
def ZE(m:za)(w0 w:World)(A:Option Addr)(c:Nat)(l:List (List zm)):Prop:=qU m (vr (old w0) w) A c l
theorem ZE.in_{m:za}{w0 w:World}{A:Option Addr}{c:Nat}{l:List (List zm)}(h:ZE m w0 w A c l):qU m w A c l:=by
 have h1:=h.1;rw[JR]at h1;exact⟨h1.of_hole (zG.mono jp.mono 2),h.2⟩
theorem ZE.to{m:za}{w0 w1 w w':World}{A:Option Addr}{c:Nat}{l:List (List zm)}(h:ZE m w0 w A c l)(hw:w1.heap.size≤w0.heap.size)(hz:w.heap.size≤w'.heap.size)(hs:∀b,b<w.heap.size→w0.heap.size≤b→w'.heap[b]? =w.heap[b]?):ZE m w1 w' A c l:=by
 have h1:=h.1;rw[JR]at h1;refine⟨?_,h.2⟩;rw[JR];exact h1.hole (zG.mono jp.mono 2) hz fun b hb hs'=>⟨YQ.mpr (Xg hw (YQ.mp hs')),hs b hb (YQ.mp hs')⟩
theorem ZE.now{m:za}{w0 w w':World}{A:Option Addr}{c:Nat}{l:List (List zm)}(h:ZE m w0 w A c l)(hb:Below w.heap.size w w'):ZE m w0 w' A c l:=
 h.to (zn _) hb.size fun b hb' _=>hb.block b hb'
theorem qfd(m:za)(h:zg)(w:World)(H:zi w w.heap.size h m)(hm:zK m):
  Calls Tryz.prog 22 #[zk h m] w fun e w'=>∃(A:Option Addr) (n c:Nat) (f pc er:Int),e= .returned (.tuple #[.slice A n c,.int .i64 f,.int .i64 pc,.int .i64 er])∧Below w.heap.size w w'∧(er=0∨er=4)∧(¬er=0→q0t m)∧(er=0→∃l,l.length=n∧ZE m w w' A c l∧kY m l):=by
 refine(qfy m h w H hm (by have:=hm.fits.ml;omega)).mono fun e w' ⟨A,n,c,f,pc,er,h1,h2,h3,h4,h5⟩=>⟨A,n,c,f,pc,er,h1,h2,h3,h4,fun he=> ?_⟩
 obtain⟨XS,a1,a2,a3,a4,a5,a6⟩:=h5 he;have ha4:Zd (vr (old w) w') (.slice A n c) XS:=⟨fun p hp=>qra (a4.outs p hp) (a5 p hp).1 (a5 p hp).2,a4.apart,a4.diff,fun g hg q hq k v hc=>a4.dry g hg q hq k v (Jo.mp hc).2⟩
 exact qa6 (w:=w) hm a1 a2 (qr9 a3) ha4 (fun p hp=>(a5 p hp).1) fun i p hp=>⟨(a6 i p hp).set,a6 i p hp⟩
theorem qmm{m:za}{h:zg}{w0 w:World}{r:Int}(HI:Hid (zi w0 w0.heap.size h m))(HX:Hid (Below w0.heap.size w0 w))(HR:Hid (qK m=r)):
  Calls Tryz.prog 21 #[zk h m] w fun e w'=>e= .returned (.int .i64 r)∧Below w.heap.size w w':=by
 have H:=qhs m h w (HI.out.now HX.out);rw[HR.out]at H;exact H
theorem qm1{m:za}{h:zg}{w0 w:World}(HI:Hid (zi w0 w0.heap.size h m))(HX:Hid (Below w0.heap.size w0 w))(HM:Hid (zK m)):
  Calls Tryz.prog 22 #[zk h m] w fun e w'=>∃(A:Option Addr) (n c:Nat) (f pc er:Int),e= .returned (.tuple #[.slice A n c,.int .i64 f,.int .i64 pc,.int .i64 er])∧Below w.heap.size w w'∧(er=0∨er=4)∧(¬er=0→q0t m)∧(er=0→∃l,l.length=n∧ZE m w w' A c l∧kY m l):=
 qfd m h w (HI.out.now HX.out) HM.out
theorem qpr{m:za}{l:List (List zm)}{A:Option Addr}{c k:Nat}{h:zg}{w0 w:World}(HI:Hid (zi w0 w0.heap.size h m))(HX:Hid (Below w0.heap.size w0 w))(HS:Hid (vd m=true))(HT:Hid (qU m w A c l))(HK:Hid (l.length=k)):
  Calls Tryz.prog 12 #[zk h m,.slice A k c] w (q59 m l w):=by
 obtain rfl:=HK.out;exact q4e m l A c h w (HI.out.now HX.out) HS.out HT.out
theorem qnf{m:za}{l:List (List zm)}{A:Option Addr}{c k:Nat}{h:zg}{w0 w:World}(HI:Hid (zi w0 w0.heap.size h m))(HX:Hid (Below w0.heap.size w0 w))(HS:Hid (vd m=true))(HT:Hid (qU m w A c l))(HK:Hid (l.length=k)):
  Calls Tryz.prog 23 #[zk h m,.slice A k c] w fun e w'=>∃f er:Int,e= .returned (.tuple #[.int .i64 f,.int .i64 er])∧Below w.heap.size w w'∧(0≤jL m l→er=6)∧(¬0≤jL m l→er=0):=by
 obtain rfl:=HK.out;refine(qiq m l A c h w (HI.out.now HX.out) HS.out HT.out).mono fun e w' ⟨he,hb⟩=>⟨_,_,he,hb,fun h=>Xb h,fun h=>Xa h⟩
def qq5(m:za)(w:World)(e:Ending)(w':World):Prop:=∃A n c er,e= .returned (.tuple #[.slice A n c,.int .i64 er])∧Below w.heap.size w w'∧Qe m er n (ZE m w w' A c)
theorem Qe.mono{m:za}{er:Int}{n:Nat}{T T':List (List zm)→Prop}(h:Qe m er n T)(ht:∀l,T l→T' l):Qe m er n T':=by
 rcases h with q|q|⟨h1,l,h2,h3,h4,h5⟩
 ·exact .inl q
 ·exact .inr (.inl q)
 ·exact .inr (.inr ⟨h1,l,h2,h3,h4,fun e=>⟨(h5 e).1,ht l (h5 e).2⟩⟩)
theorem q6p{P:Prop}(h:P:=by
 go_wp2_with fail
 refine Xn (v:= .tuple #[.slice none 0 0,.int .i64 7]) (by simp[results,Tryz.results10,go_sem]) rfl ?_;exact⟨none,0,0,7,rfl,HW.out.trans (HX5.out.mono (Xk HZ.out)),.inr (.inr ⟨HR.out,l,HFA.out,HE.out.symm,fun _=>rfl,(fun e=>by cases e)⟩)⟩):P:=h
set_option maxHeartbeats 6400000 in
theorem q4f(m:za)(h:zg)(w:World)(H:zi w w.heap.size h m):
  Calls Tryz.prog 10 #[zk h m] w (qq5 m w):=by
 have HW:=zH (jz (w:=w) (h:=h) (m:=m));have HBX:=zH (zX w h m);have HZ:Hid (w.heap.size<(w.alloc (zo h m)).heap.size):=zH (by simp);have HI:=zH (H.now HW.out);obtain⟨r,hr⟩:∃z,qK m=z:=⟨_,rfl⟩
 have HR:=zH hr;clear H hr;go_enter Tryz.func10,Tryz.ntmps10;go_upto_region 1 with fail
 generalize w.alloc (zo h m)=w1 at*
 obtain⟨q0,q1,q2,q3,q4,q5,q6⟩:=HBX.out;have HX:Hid (Below w1.heap.size w1 w1):=zH (zb _ _);go_upto_region 2 with(go_at_call 21;(with_reducible refine(qmm HI HX HR).mono ?_);rintro e w2 ⟨rfl,hb⟩;have HX2:=zl HX hb;clear hb)
 clear q0 q1 q2 q3 q4 q5 q6;obtain⟨q0,q1,q2,q3,q4,q5,q6⟩:=HBX.out.keep HX2.out HZ.out;by_cases hr0:r=0;rotate_left
 ·have hne:(r !=0)=true:=bne_iff_ne.mpr hr0;have HN:Hid (r≠0):=zH hr0;clear hr0;go_wp2_with fail
  refine Xn (v:= .tuple #[.slice none 0 0,.int .i64 r]) (by simp[results,Tryz.results10,go_sem]) rfl ?_;exact⟨none,0,0,r,rfl,HW.out.trans (HX2.out.mono (Xk HZ.out)),.inl ⟨by rw[HR.out];exact HN.out,HR.out.symm,rfl⟩⟩
 subst hr0;have HS:=zH (q03 HR.out);have HM:=zH (JE HR.out);go_upto_region 5 with(go_at_call 22;(with_reducible refine(qm1 HI HX2 HM).mono ?_);rintro e w3 ⟨Al,nl,cl,f1,p1,er,rfl,hb,hor,hno,hyes⟩;have HX3:=zl HX2 hb;have HOR:=zH hor;have HNO:=zH hno;have HYES:=zH hyes;clear hb hor hno hyes)
 clear q0 q1 q2 q3 q4 q5 q6;obtain⟨q0,q1,q2,q3,q4,q5,q6⟩:=HBX.out.keep HX3.out HZ.out;by_cases he0:er=0;rotate_left
 ·obtain rfl:er=4:=HOR.out.resolve_left he0;have HNM:=zH (HNO.out he0);clear he0;go_wp2_with fail
  refine Xn (v:= .tuple #[.slice none 0 0,.int .i64 4]) (by simp[results,Tryz.results10,go_sem]) rfl ?_;exact⟨none,0,0,4,rfl,HW.out.trans (HX3.out.mono (Xk HZ.out)),.inr (.inl ⟨HR.out,rfl,rfl,HNM.out⟩)⟩
 subst he0;obtain⟨l,hll,hty,hfa⟩:=HYES.out rfl;have HTN:=zH hty;have HT:=zH hty.in_;have HZ2:Hid (w.heap.size≤w2.heap.size):=zH (Xg HW.out.size HX2.out.size);have HFA:=zH hfa;have HLL:=zH hll;clear hll hty hfa HYES HNO HOR;go_upto_region 8 with(go_at_call 12;(with_reducible refine(qpr HI HX3 HS HT HLL).mono ?_);rintro e w4 ⟨sn,pn,e2,rfl,hb,hno,hyes⟩;have HB4:=zH hb;have HX4:=zl HX3 hb;have HNO:=zH hno;have HYES:=zH hyes;clear hb hno hyes)
 clear q0 q1 q2 q3 q4 q5 q6;obtain⟨q0,q1,q2,q3,q4,q5,q6⟩:=HBX.out.keep HX4.out HZ.out;by_cases hrb:jr m=true;rotate_left
 ·have hrb:jr m=false:=by simpa using hrb
  obtain rfl:=HNO.out hrb;have HE:Hid (qV m l=5):=zH (by unfold qV;rw[Xb hrb]);clear hrb;go_wp2_with fail
  refine Xn (v:= .tuple #[.slice none 0 0,.int .i64 5]) (by simp[results,Tryz.results10,go_sem]) rfl ?_;exact⟨none,0,0,5,rfl,HW.out.trans (HX4.out.mono (Xk HZ.out)),.inr (.inr ⟨HR.out,l,HFA.out,HE.out.symm,fun _=>rfl,(fun e=>by cases e)⟩)⟩
 obtain⟨rfl,hs1,hs2⟩:=HYES.out hrb;have HSN:=zH hs1;have HPN:=zH hs2;have HRB:=zH hrb;have HTN4:=zH (HTN.out.now HB4.out);have HT4:=zH HTN4.out.in_;clear hs1 hs2 HYES HNO hrb;go_upto_region 11 with(go_at_call 23;(with_reducible refine(qnf HI HX4 HS HT4 HLL).mono ?_);rintro e w5 ⟨f5,e5,rfl,hb,hp1,hp2⟩;have HB5:=zH hb;have HX5:=zl HX4 hb;have HP1:=zH hp1;have HP2:=zH hp2;clear hb hp1 hp2)
 clear q0 q1 q2 q3 q4 q5 q6;obtain⟨q0,q1,q2,q3,q4,q5,q6⟩:=HBX.out.keep HX5.out HZ.out;by_cases hp0:0≤jL m l
 ·obtain rfl:=HP1.out hp0;have HE:Hid (qV m l=6):=zH (by unfold qV;rw[Xa (by rw[HRB.out];decide),Xb hp0]);clear hp0;go_wp2_with fail
  refine Xn (v:= .tuple #[.slice none 0 0,.int .i64 6]) (by simp[results,Tryz.results10,go_sem]) rfl ?_;exact⟨none,0,0,6,rfl,HW.out.trans (HX5.out.mono (Xk HZ.out)),.inr (.inr ⟨HR.out,l,HFA.out,HE.out.symm,fun _=>rfl,(fun e=>by cases e)⟩)⟩
 obtain rfl:=HP2.out (by first|exact hp0|omega);have HAE:Hid (qV m l=if QA m l=true then 7 else 0):=zH (by unfold qV;rw[Xa (by rw[HRB.out];decide),Xa hp0]);have HQB:Hid (QA m l=(decide (sn>m.stack)||decide (pn>m.heap))):=zH (by unfold QA;rw[HSN.out,HPN.out]);clear hp0 HP1 HP2;by_cases h1:sn>m.stack
 ·have HE:Hid (qV m l=7):=zH (by rw[HAE.out,Xb (by rw[HQB.out,Xh h1];rfl)]);exact q6p
 by_cases h2:pn>m.heap
 ·have HE:Hid (qV m l=7):=zH (by rw[HAE.out,Xb (by rw[HQB.out,Xh h2,Bool.or_true])]);exact q6p
 ·have HE:Hid (qV m l=0):=zH (by rw[HAE.out,Xa (by rw[HQB.out,Xf h1,Xf h2];decide)]);have HT5:=zH ((HTN4.out.now HB5.out).to HZ2.out (zn _) (fun _ _ _=>rfl));go_wp2_with fail
  refine Xn (v:= .tuple #[.slice Al nl cl,.int .i64 0]) (by simp[results,Tryz.results10,go_sem]) rfl ?_;exact⟨Al,nl,cl,0,rfl,HW.out.trans (HX5.out.mono (Xk HZ.out)),.inr (.inr ⟨HR.out,l,HFA.out,HE.out.symm,fun e=>absurd rfl e,fun _=>⟨HLL.out.symm,HT5.out⟩⟩)⟩
theorem qli(m:za)(h:zg)(w:World)(H:zi w w.heap.size h m):
  Calls Tryz.prog 10 #[zk h m] w (qdn m w):=
 (q4f m h w H).mono fun _ _ ⟨A,n,c,er,h1,h2,h3⟩=>⟨A,n,c,er,h1,h2,h3.mono fun _ q=>q.in_⟩
end Go.Proofs.YtcmiljnbmgkdnaaGreat
