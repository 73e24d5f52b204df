import Derived.Test.YtnfeiginmngknaaGreatFZ39
import Derived.Test.YtnfeiginmngknaaGreatFZ37
import Derived.Test.YtnfeiginmngknaaGreatFZ38
import Derived.Test.YtnfeiginmngknaaGreatFZ22
import Derived.Test.YtnfeiginmngknaaGreatFZ12
namespace Go.Proofs.YtnfeiginmngknaaGreat
set_option maxRecDepth 100000
set_option linter.unusedVariables false
set_option linter.unusedSimpArgs false
open Go.ChangeShapes Go.WideShapes Go.ChangeAt Go.RowKit
def Uz(m:za)(l:List (List zq))(w:World)(e:Ending)(w':World):Prop:=∃s p er,e= .returned (.tuple #[.int .i64 s,.int .i64 p,.int .i64 er])/\Below w.heap.size w w'/\(kQ m=false->er=5)/\(kQ m=true->er=0/\s=pI m l/\p=pX m)
theorem qe8{m:za}{maps:List (List zq)}{A:Option Addr}{c n:Nat}{h:zh}{w0 w:World}(HI:Hid (zr w0 w0.heap.size h m))(HX:Hid (Below w0.heap.size w0 w))(HS:Hid (Ql m=true))(HT:Hid (jO m w A c maps))(HN:Hid (maps.length=n)):
  Calls Tryz.prog 37 #[zv h m,.slice A n c] w (Uy m maps w):=by
 obtain rfl:=HN.out;exact q9d m maps A c h w (HI.out.now HX.out) HS.out HT.out.1 HT.out.z4
theorem q9s{m:za}(hm:zP m)(l:List (List zq))(t:Nat):0<=oN (vV m l) t:=by
 unfold oN;rcases Xl t m.methods.length with q|q
 ·rw[qep q];exact qer (Lg m) (p8 hm) q
 ·rw[XE (by rw[yV];exact q)];exact Int.le_refl _
theorem WT{T L:List Int}{A B:Option Addr}{c cb n k:Nat}{w:World}{r:Int}(HT:Hid (zd zu 1 w w.heap.size A c T))(HN:Hid (T.length=n/\n<=12/\∀t,0<=oN T t))(HL:Hid (zd zu 1 w w.heap.size B cb L))(HK:Hid (L.length=k/\k<=12/\∀f ∈L,0<=f/\f<n))(HR:Hid (Jg T L=r)):
  Calls Tryz.prog 38 #[.slice A n c,.slice B k cb] w fun e w'=>e= .returned (.int .i64 r)/\Below w.heap.size w w':=by
 obtain⟨h1,h2,h3⟩:=HN.out;obtain⟨rfl,h4,h5⟩:=HK.out;have H:=qez T L A B c cb n w HT.out h1 (by omega) HL.out (by omega) h5 h3;rw[HR.out]at H;exact H
theorem qig{m:za}{h:zh}{n:Nat}{w0 w:World}(HI:Hid (zr w0 w0.heap.size h m))(HX:Hid (Below w0.heap.size w0 w))(HN:Hid (m.methods.length=n/\n<=12)):
  Calls Tryz.prog 39 #[zv h m] w fun e w'=>∃g,e= .returned (.slice (some ⟨g,0,none⟩) n n)/\zd zu 1 w' w'.heap.size (some ⟨g,0,none⟩) n (JZ m)/\Below w.heap.size w w':=
 qex m h n w (HI.out.now HX.out) HN.out.1 HN.out.2
set_option maxHeartbeats 6400000 in
theorem SF(m:za)(l:List (List zq))(A:Option Addr)(c:Nat)(h:zh)(w:World)(H:zr w w.heap.size h m)(hs:Ql m=true)(hT:jO m w A c l):
  Calls Tryz.prog 13 #[zv h m,.slice A l.length c] w (Uz m l w):=by
 have hsn:=PR hs;have hm:=mW hsn;have hp:=Kw hm m.entries;have hsl:=hm.fits.sl;have HS:=zH hs;have HW:=zH (vU (w:=w) (h:=h) (m:=m));have HBX:=zH (qd w h m);have HZ:Hid (w.heap.size<(w.alloc (ze h m)).heap.size):=zH (by simp);have HI:=zH (H.now HW.out);have HT:=zH (hT.now HW.out);obtain⟨nl,hnl⟩:∃z,l.length=z:=⟨_,rfl⟩
 rw[hnl];have Zj:=zH hnl;obtain⟨n,hn⟩:∃z,m.methods.length=z:=⟨_,rfl⟩
 have Qc:Hid (m.methods.length=n/\n<=12):=zH ⟨hn,by have:=hm.fits.ml;omega⟩;obtain⟨ne,hne⟩:∃z,m.entries.length=z:=⟨_,rfl⟩
 have VO:Hid (m.entries.length=ne/\ne<=12/\∀f ∈m.entries,0<=f/\f<n):=zH ⟨hne,by have:=hm.fits.el;omega,fun f hf=>by have:=Kb hsn hf;omega⟩;have oL:Hid ((vV m l).length=n/\n<=12/\∀t,0<=oN (vV m l) t):=zH ⟨by rw[yV,hn],Qc.out.2,q9s hm l⟩;have bF:Hid ((JZ m).length=n/\n<=12/\∀t,0<=oN (JZ m) t):=zH ⟨by rw[U0,hn],Qc.out.2,qgc hm⟩;have qZ:Hid (Jg (vV m l) m.entries=pI m l):=zH rfl;obtain⟨pv,hpv⟩:∃z,jp m m.entries=z:=⟨_,rfl⟩
 have HS2:Hid (Jg (JZ m) m.entries=pv):=zH (by rw[qc4 m _ (fun f hf=>(Kb hsn hf).1),hpv]);have M8:Hid (pX m=(m.statics.length:Int)+pv):=zH (by unfold pX;rw[hpv]);obtain⟨sv,hsv⟩:∃z,pI m l=z:=⟨_,rfl⟩
 have uy:=zH hsv;rw[hsv]at qZ;rw[hpv]at hp;have hw1:IntKind.i64.wrap ((m.statics.length:Int)+pv)=(m.statics.length:Int)+pv:=IntWalk.i64_in _ (by omega);clear H hs hT hsn hnl hm hn hne hpv hsv hsl hp;go_enter Tryz.func13,Tryz.ntmps13;go_upto_region 1 with fail
 generalize w.alloc (ze h m)=w1 at*
 obtain⟨q0,q1,q2,q3,q4,q5,q6⟩:=HBX.out;have HX0:=qP w1;go_upto_region 2 with(go_at_call 37;(with_reducible refine(qe8 HI HX0 HS HT Zj).mono ?_);rintro e w6 ⟨Ab6,nb6,cb6,er,rfl,hb,hno,Qd⟩;have HX6:=zH hb;have qz:=zH hno;have vy:=zH Qd;clear hb hno Qd)
 clear q0 q1 q2 q3 q4 q5 q6;by_cases hrb:kQ m=true;rotate_left
 ·have hrb:kQ m=false:=by simpa using hrb
  obtain⟨rfl,_⟩:=qz.out hrb;have Zs:=zH hrb;clear hrb;go_wp2_with fail
  refine Xk (v:= .tuple #[.int .i64 0,.int .i64 0,.int .i64 5]) (by simp[results,Tryz.results13,go_sem]) rfl ?_;exact⟨0,0,5,rfl,HW.out.trans (HX6.out.mono (Xg HZ.out)),fun _=>rfl,fun e=>by rw[Zs.out]at e;cases e⟩
 obtain⟨rfl,hnb,hsb,_⟩:=vy.out hrb;have Zs:=zH hrb;have QV:=zH hsb;have qmo:nb6=n:=hnb.trans Qc.out.1;clear hsb vy qz hrb hnb;subst qmo;go_upto_region 4 with fail
 have Qg:Hid (Below w6.heap.size w6 w6.drew):=zH (zb _ _).drew;have QV:=zH (QV.out.keep' zu.keeps Qg.out.size (fun _ hq=>Qg.out.cell hq));have qy:=zH HX6.out.drew;have HEI:Hid (∀W,Below w1.heap.size w1 W->zd zu 1 W W.heap.size h.A4 h.c4 m.entries):=zH (fun W hW=>(HI.out.now hW).entries);have qI:Hid (∀W,Below w1.heap.size w1 W->(fun w':World=>w'.cell? ⟨w.heap.size,0,none⟩=some (.slice h.A0 m.classes.length h.c0)/\w'.cell? ⟨w.heap.size,1,none⟩=some (.slice h.A1 m.statics.length h.c1)/\w'.cell? ⟨w.heap.size,2,none⟩=some (.slice h.A2 m.ints.length h.c2)/\w'.cell? ⟨w.heap.size,3,none⟩=some (.slice h.A3 m.methods.length h.c3)/\w'.cell? ⟨w.heap.size,4,none⟩=some (.slice h.A4 m.entries.length h.c4)/\w'.cell? ⟨w.heap.size,5,none⟩=some (.int .i64 m.stack)/\w'.cell? ⟨w.heap.size,6,none⟩=some (.int .i64 m.heap)) W):=zH (fun W hW=>HBX.out.keep hW HZ.out);obtain⟨ne',hne'⟩:∃z,m.entries.length=z:=⟨_,rfl⟩
 have HEK:=zH (hne'.symm.trans VO.out.1);refine wp_region_noPanic ?_;refine wp_region_held_drew (S:=(fun w':World=>w'.cell? ⟨w.heap.size,0,none⟩=some (.slice h.A0 m.classes.length h.c0)/\w'.cell? ⟨w.heap.size,1,none⟩=some (.slice h.A1 m.statics.length h.c1)/\w'.cell? ⟨w.heap.size,2,none⟩=some (.slice h.A2 m.ints.length h.c2)/\w'.cell? ⟨w.heap.size,3,none⟩=some (.slice h.A3 m.methods.length h.c3)/\w'.cell? ⟨w.heap.size,4,none⟩=some (.slice h.A4 m.entries.length h.c4)/\w'.cell? ⟨w.heap.size,5,none⟩=some (.int .i64 m.stack)/\w'.cell? ⟨w.heap.size,6,none⟩=some (.int .i64 m.heap))) (by kernel_rfl) (qI.out _ qy.out) (fun hHeld=> ?_);clear hne';generalize w6.drew=wd at Qg qy QV hHeld⊢
 refine mT 0 (h:=mT 1 (h:=mT 2 (h:=mT 4 (h:=mT 5 (h:=mT 6 (h:=mT 7 (h:=mT 9 (h:=mT 10 (h:= ?_)))))))));refine mR 3 (h:=fun K hK=> ?_);go_simp;(go_at_call 38;(refine(WT QV oL (zH (HEI.out _ qy.out)) (zH ⟨rfl,VO.out.1 ▸ VO.out.2.1,VO.out.2.2⟩) qZ).mono ?_);rintro e w7 ⟨rfl,hb⟩;replace qy:=zi qy hb;clear hb)
 refine mK hK (qI.out _ qy.out) (h:=fun hHeld=> ?_);clear hK K;refine mR 8 (h:=fun K hK=> ?_);go_simp;(go_at_call 39;(refine(qig HI qy Qc).mono ?_);rintro e w8 ⟨g8,rfl,QW,hb⟩;replace qy:=zi qy hb;have Na:=zH QW;clear hb QW)
 refine mK hK (qI.out _ qy.out) (h:=fun hHeld=> ?_);clear hK K;refine mR 11 (h:=fun K hK=> ?_);go_simp;(go_at_call 38;(refine(WT Na bF (zH (HEI.out _ qy.out)) (zH ⟨rfl,VO.out.1 ▸ VO.out.2.1,VO.out.2.2⟩) HS2).mono ?_);rintro e w9 ⟨rfl,hb⟩;replace qy:=zi qy hb;clear hb)
 refine mK hK (qI.out _ qy.out) (h:=fun hHeld=> ?_);clear hK K;refine mT 12 (h:=mT 13 (h:=mT 14 (h:=mT 15 (h:= ?_))));refine wpAnyH_done (by kernel_rfl) ?_ _;refine NoPanic.normal ?_;go_wp2_with fail
 refine Xk (v:= .tuple #[.int .i64 sv,.int .i64 ((m.statics.length:Int)+pv),.int .i64 0]) (by simp[results,Tryz.results13,go_sem]) rfl ?_;exact⟨_,_,0,rfl,HW.out.trans (qy.out.mono (Xg HZ.out)),fun e=>(by rw[Zs.out]at e;cases e),fun _=>⟨rfl,uy.out.symm,M8.out.symm⟩⟩
def bQ(m:za)(l:List (List zq)):Prop:=l.length=m.methods.length/\∀(i:Nat) S,l[i]? =some S->fD m (i:Int) S/\Yx m (i:Int) S
def Bc(m:za):Prop:=∀a,bW m a=false
def iw(m:za)(l:List (List zq)):Bool:=decide (pI m l>m.stack)||decide (pX m>m.heap)
def vv(m:za)(l:List (List zq)):Int:=if kQ m=false then 5 else if 0<=Zy m l then 6 else if iw m l=true then 7 else 0
def qis(m:za)(w:World)(e:Ending)(w':World):Prop:=∃A n c er,e= .returned (.tuple #[.slice A n c,.int .i64 er])/\Below w.heap.size w w'/\
 ((jQ m≠0/\er=jQ m/\n=0)\/(jQ m=0/\er=4/\n=0/\Bc m)\/(jQ m=0/\∃l,bQ m l/\er=vv m l/\(er≠0->n=0)/\(er=0->n=l.length/\jO m w' A c l)))
theorem SQ{m:za}{w w':World}{A:Option Addr}{n c:Nat}{XS:List (Nat×List zg)}(hm:zP m)(h1:n=m.methods.length)(h2:XS.length=n)(h3:w'.ownsRow w.heap.size 79 1 (.slice A n c) n (aN XS))(h4:YB w' (.slice A n c) XS)(h5:∀p ∈XS,w.heap.size<=p.1)
  (h6:∀(i:Nat) p,XS[i]? =some p->fD m (i:Int) (p.2.map zg.shp)/\Yx m (i:Int) (p.2.map zg.shp)):∃l,l.length=n/\jO m w' A c l/\bQ m l:=by
 have Ie:∀p ∈XS,p.2.length<=64/\∀s ∈p.2.map zg.shp,s.stack.length<=8:=fun p hp=>by
  obtain⟨i,hi,e⟩:=We hp;have hf:=(h6 i p (by rw[Xc hi,e])).1;have hlt:i<m.methods.length:=by omega
  have hx:zA m (i:Int) ∈m.methods:=by unfold zA;grind
  have hl:=hf.grow.len;rw[Xm]at hl;exact⟨by have:=(hm.method hx).fits.cl;omega,hf.grow.small⟩
 have hln:(bX XS).length=n:=by unfold bX;grind
 have hall:∀(i:Nat) S,(bX XS)[i]? =some S->fD m (i:Int) S/\Yx m (i:Int) S:=fun i S hS=>by
  unfold bX at hS
  grind
 refine⟨bX XS,hln,⟨qkf h3 h2 h4.outs (by grind),fun S hS=> ?_,by rw[hln,h1],(by grind)⟩,by rw[hln,h1],hall⟩;unfold bX at hS;obtain⟨p,hp,rfl⟩:=X9.mp hS
 grind
theorem UT{m:za}{h:zh}{w0 w:World}{r:Int}(HI:Hid (zr w0 w0.heap.size h m))(HX:Hid (Below w0.heap.size w0 w))(HR:Hid (jQ m=r)):
  Calls Tryz.prog 30 #[zv h m] w fun e w'=>e= .returned (.int .i64 r)/\Below w.heap.size w w':=by
 have H:=qbl m h w (HI.out.now HX.out);rw[HR.out]at H;exact H
theorem qjg{m:za}{h:zh}{w0 w:World}(HI:Hid (zr w0 w0.heap.size h m))(HX:Hid (Below w0.heap.size w0 w))(HM:Hid (zP m)):
  Calls Tryz.prog 31 #[zv h m] w (q13 m w):=qc1 m h w (HI.out.now HX.out) HM.out (by have:=HM.out.fits.ml;omega)
theorem qbr{m:za}{l:List (List zq)}{A:Option Addr}{c k:Nat}{h:zh}{w0 w:World}(HI:Hid (zr w0 w0.heap.size h m))(HX:Hid (Below w0.heap.size w0 w))(HS:Hid (Ql m=true))(HT:Hid (jO m w A c l))(HK:Hid (l.length=k)):
  Calls Tryz.prog 32 #[zv h m,.slice A k c] w (WW m l w):=by
 obtain rfl:=HK.out;exact q6q m l A c h w (HI.out.now HX.out) HS.out HT.out.1 HT.out.z4
set_option maxHeartbeats 6400000 in
theorem q73(m:za)(h:zh)(w:World)(H:zr w w.heap.size h m):
  Calls Tryz.prog 10 #[zv h m] w (qis m w):=by
 have HW:=zH (vU (w:=w) (h:=h) (m:=m));have HBX:=zH (qd w h m);have HZ:Hid (w.heap.size<(w.alloc (ze h m)).heap.size):=zH (by simp);have HI:=zH (H.now HW.out);clear H;obtain⟨r,hr⟩:=zj (jQ m);have HR:=zH hr;obtain⟨A0,Ab,A2,A3,A4,k0,k1,k2,k3,k4⟩:=h;by_cases hr0:r=0;rotate_left
 ·have hne:(r !=0)=true:=by grind
  have jc:Hid (jQ m≠0):=(by grind)
  clear hr hr0;go_enter Tryz.func10,Tryz.ntmps10;go_upto_region 1 with fail
  generalize w.alloc (ze ⟨A0,Ab,A2,A3,A4,k0,k1,k2,k3,k4⟩ m)=w1 at*
  obtain⟨q0,q1,q2,q3,q4,q5,q6⟩:=HBX.out;have HX:=qP w1;go_wp2_with(go_at_call 30;(with_reducible refine(UT HI HX HR).mono ?_);rintro e w2 ⟨rfl,hb⟩;have HX2:=zi HX hb;clear hb)
  go_ret2
  exact⟨none,0,0,r,rfl,HW.out.trans (HX2.out.mono (Xg HZ.out)),.inl ⟨jc.out,HR.out.symm,rfl⟩⟩
 subst hr0;have HM:=zH (mW hr);have HS:=zH (Kq hr);clear hr;go_enter Tryz.func10,Tryz.ntmps10;go_upto_region 1 with fail
 generalize w.alloc (ze ⟨A0,Ab,A2,A3,A4,k0,k1,k2,k3,k4⟩ m)=w1 at*
 obtain⟨q0,q1,q2,q3,q4,q5,q6⟩:=HBX.out;have HX:=qP w1;go_upto_region 4 with(go_at_call 30;(with_reducible refine(UT HI HX HR).mono ?_);rintro e w2 ⟨rfl,hb⟩;have HX2:=zi HX hb;clear hb)
 clear q0 q1 q2 q3 q4 q5 q6;obtain⟨q0,q1,q2,q3,q4,q5,q6⟩:=HBX.out.keep HX2.out HZ.out;go_upto_region 5 with(go_at_call 31;(with_reducible refine(qjg HI HX2 HM).mono ?_);rintro e w3 ⟨Al,nl,cl,bad,rfl,hb,Qd,hno⟩;have zp:=zi HX2 hb;have vy:=zH Qd;have qz:=zH hno;clear hb Qd hno)
 clear q0 q1 q2 q3 q4 q5 q6;obtain⟨q0,q1,q2,q3,q4,q5,q6⟩:=HBX.out.keep zp.out HZ.out;by_cases hbad:0<=bad
 ·have aX:=zH (qz.out hbad);go_wp2_with fail
  go_ret2
  exact⟨none,0,0,4,rfl,HW.out.trans (zp.out.mono (Xg HZ.out)),.inr (.inl ⟨HR.out,rfl,rfl,aX.out⟩)⟩
 obtain⟨XS,h1,h2,h3,h4,h5,h6⟩:=vy.out (by omega);obtain⟨l,hll,hty,hfa⟩:=SQ HM.out h1 h2 h3 h4 h5 (fun i p hp=>⟨(h6 i p hp).1.set,(h6 i p hp).2⟩);have HT:=zH hty;have Zg:=zH hfa;have kD:=zH hll;clear h1 h2 h3 h4 h5 h6 hty hfa hll vy qz XS;go_upto_region 8 with(go_at_call 32;(with_reducible refine(qbr HI zp HS HT kD).mono ?_);rintro e w4 ⟨sn,pn,ok,rfl,hb,hok,Qd⟩;have jw:=zH hb;have HX4:=zi zp hb;have vQ:=zH hok;have vy:=zH Qd;clear hb hok Qd)
 clear q0 q1 q2 q3 q4 q5 q6;obtain⟨q0,q1,q2,q3,q4,q5,q6⟩:=HBX.out.keep HX4.out HZ.out;cases ok
 ·have HE:Hid (vv m l=5):=zH (by unfold vv;rw[Xb vQ.out.symm]);go_wp2_with fail
  go_ret2
  exact⟨none,0,0,5,rfl,HW.out.trans (HX4.out.mono (Xg HZ.out)),.inr (.inr ⟨HR.out,l,Zg.out,HE.out.symm,fun _=>rfl,fun e=>by cases e⟩)⟩
 obtain⟨hs1,hs2⟩:=vy.out rfl;have jS:=zH hs1;have bF:=zH hs2;have Zs:Hid (kQ m=true):=zH vQ.out.symm;clear hs1 hs2 vy vQ;have Ja:=zH (HT.out.now jw.out);obtain⟨pt,hpt⟩:∃z,Zy m l=z:=⟨_,rfl⟩
 have ki:=zH hpt;clear hpt;by_cases hp0:0<=pt
 ·have HE:Hid (vv m l=6):=zH (by unfold vv;rw[Xa (by rw[Zs.out];decide),Xb (by rw[ki.out];exact hp0)]);go_wp2_with(go_at_call 33;(with_reducible refine(UU HI HX4 HM Ja kD ki).mono ?_);rintro e w5 ⟨rfl,hb⟩;have qc:=zi HX4 hb;clear hb)
  go_ret2
  exact⟨none,0,0,6,rfl,HW.out.trans (qc.out.mono (Xg HZ.out)),.inr (.inr ⟨HR.out,l,Zg.out,HE.out.symm,fun _=>rfl,fun e=>by cases e⟩)⟩
 have tK:Hid (vv m l=if iw m l=true then 7 else 0):=zH (by unfold vv;rw[Xa (by rw[Zs.out];decide),Xa (by rw[ki.out];exact hp0)]);have tY:Hid (iw m l=(decide (sn>m.stack)||decide (pn>m.heap))):=zH (by unfold iw;rw[jS.out,bF.out]);go_upto_region 12 with(go_at_call 33;(with_reducible refine(UU HI HX4 HM Ja kD ki).mono ?_);rintro e w5 ⟨rfl,hb⟩;have kh:=zH hb;have qc:=zi HX4 hb;clear hb)
 clear q0 q1 q2 q3 q4 q5 q6;obtain⟨q0,q1,q2,q3,q4,q5,q6⟩:=HBX.out.keep qc.out HZ.out;by_cases h1:sn>m.stack
 ·have HE:Hid (vv m l=7):=zH (by rw[tK.out,Xb (by rw[tY.out,Xi h1];rfl)]);go_wp2_with fail
  go_ret2
  exact⟨none,0,0,7,rfl,HW.out.trans (qc.out.mono (Xg HZ.out)),.inr (.inr ⟨HR.out,l,Zg.out,HE.out.symm,fun _=>rfl,fun e=>by cases e⟩)⟩
 by_cases h2:pn>m.heap
 ·have HE:Hid (vv m l=7):=zH (by rw[tK.out,Xb (by rw[tY.out,Xi h2,Bool.or_true])]);go_wp2_with fail
  go_ret2
  exact⟨none,0,0,7,rfl,HW.out.trans (qc.out.mono (Xg HZ.out)),.inr (.inr ⟨HR.out,l,Zg.out,HE.out.symm,fun _=>rfl,fun e=>by cases e⟩)⟩
 ·have HE:Hid (vv m l=0):=zH (by rw[tK.out,Xa (by rw[tY.out,Xf h1,Xf h2];decide)]);have tq:=zH (Ja.out.now kh.out);go_wp2_with fail
  go_ret2
  exact⟨Al,nl,cl,0,rfl,HW.out.trans (qc.out.mono (Xg HZ.out)),.inr (.inr ⟨HR.out,l,Zg.out,HE.out.symm,fun e=>absurd rfl e,fun _=>⟨kD.out.symm,tq.out⟩⟩)⟩
theorem Pb{m:za}{l l':List (List zq)}(h:bQ m l)(g:bQ m l'):l=l':=by
 refine Wh (h.1.trans g.1.symm) fun i h1 h2=> ?_;exact(h.2 i _ (by grind)).2.uniq (g.2 i _ (by grind)).2
theorem q37{m:za}{l:List (List zq)}(h:bQ m l):bW m l=true:=RG.mpr ⟨h.1,fun f hf=>by
 have:=(h.2 f _ (Xc hf)).2.right
 grind⟩
theorem RU{m:za}{l:List (List zq)}(h:bQ m l)(g:Bc m):False:=by
 have:=g l
 grind [q37]
def YT(m:za)(er:Int)(n:Nat)(T:List (List zq)->Prop):Prop:=
 (jQ m≠0/\er=jQ m/\n=0)\/(jQ m=0/\er=4/\n=0/\Bc m)\/(jQ m=0/\∃l,bQ m l/\er=vv m l/\(er≠0->n=0)/\(er=0->n=l.length/\T l))
theorem Uv(m:za)(l:List (List zq)):vv m l=5\/vv m l=6\/vv m l=7\/(vv m l=0/\kQ m=true/\Zy m l<0/\iw m l=false):=by
 unfold vv
 grind
theorem Eo{m:za}{er:Int}{n:Nat}{T:List (List zq)->Prop}(h:YT m er n T):(er≠0->n=0)/\(er=0->∃l,bQ m l/\n=l.length/\T l/\jQ m=0/\kQ m=true/\Zy m l<0/\iw m l=false):=by
 rcases h with⟨h1,rfl,h3⟩|⟨h1,rfl,h3,h4⟩|⟨h1,l,h2,rfl,h4,h5⟩
 all_goals grind [Uv]
theorem qa1{m:za}{er er':Int}{n n':Nat}{T T':List (List zq)->Prop}(h:YT m er n T)(g:YT m er' n' T'):er=er':=by
 rcases h with⟨h1,h2,_⟩|⟨h1,h2,_,h4⟩|⟨h1,l,h2,h3,_⟩
 ·rcases g with⟨_,g2,_⟩|⟨g1,_⟩|⟨g1,_⟩
  all_goals omega
 ·rcases g with⟨g1,_⟩|⟨_,g2,_⟩|⟨_,l,g2,_⟩
  all_goals grind [RU]
 ·rcases g with⟨g1,_⟩|⟨_,_,_,g4⟩|⟨_,l',g2,g3,_⟩
  all_goals grind [RU,Pb]
section
variable{m:za}{s h:Int}
end
theorem vd.mono:Jz vd:=fun _ _ _ _ p _ h hp hC hc=>⟨hc _ _ hp h.1,zM.mono zf.mono 2 h.2 hp hC hc⟩
theorem Uc{S:Nat->Bool}{w:World}{b:Nat}(h:S b=false):(qL S w).heap[b]? =w.heap[b]? :=by
 unfold qL;simp[h]
theorem qgm{w0 w:World}{e n k:Nat}{v:Value}{xs:List Value}(h:w.ownsRow w0.heap.size e k v n xs):(qL (old w0) w).ownsRow w0.heap.size e k v n xs:=by
 rcases h with⟨h1,h2|⟨g,cap,cur,h2,h3,h4,h5⟩⟩
 ·exact⟨h1,.inl h2⟩
 ·exact⟨h1,.inr ⟨g,cap,cur,h2,h3,(Uc (Yv.mpr h3)).trans h4,h5⟩⟩
theorem qgp{w0 w:World}{g:Nat}{X:List zg}(h:qJ w g X)(hg:w0.heap.size<=g)(hn:iG w0.heap.size X):qJ (qL (old w0) w) g X:=
 ⟨(Uc (Yv.mpr hg)).trans h.blk,fun x hx=>⟨(h.row x hx).le,(h.row x hx).cap,fun i t hi=>by
  obtain⟨ad,e,hb,h0,h1⟩:=(h.row x hx).row i t hi;have hb2:=hn x hx (by grind) ad e;refine⟨ad,e,by rw[Vv];exact hb,gQ.mpr ⟨Yv.mpr (by grind [zC]),h0⟩,gQ.mpr ⟨Yv.mpr (by grind [zC]),h1⟩⟩⟩⟩
def Vw(m:za)(w0 w:World)(A:Option Addr)(c:Nat)(l:List (List zq)):Prop:=jO m (qL (old w0) w) A c l
theorem Vw.in_{m:za}{w0 w:World}{A:Option Addr}{c:Nat}{l:List (List zq)}(h:Vw m w0 w A c l):jO m w A c l:=by
 have h1:=h.1;rw[Vv]at h1;exact⟨h1.of_hole (zM.mono vd.mono 2),h.2⟩
theorem Vw.to{m:za}{w0 w1 w w':World}{A:Option Addr}{c:Nat}{l:List (List zq)}(h:Vw m w0 w A c l)(hw:w1.heap.size<=w0.heap.size)(hz:w.heap.size<=w'.heap.size)(hs:∀b,b<w.heap.size->w0.heap.size<=b->w'.heap[b]? =w.heap[b]?):Vw m w1 w' A c l:=by
 have h1:=h.1;rw[Vv]at h1;refine⟨?_,h.2⟩;rw[Vv];exact h1.hole (zM.mono vd.mono 2) hz fun b hb hs'=>⟨Yv.mpr (Xe hw (Yv.mp hs')),hs b hb (Yv.mp hs')⟩
theorem Vw.now{m:za}{w0 w w':World}{A:Option Addr}{c:Nat}{l:List (List zq)}(h:Vw m w0 w A c l)(hb:Below w.heap.size w w'):Vw m w0 w' A c l:=
 h.to (zn _) hb.size fun b hb' _=>hb.block b hb'
theorem q3o(m:za)(h:zh)(w:World)(H:zr w w.heap.size h m)(hm:zP m):
  Calls Tryz.prog 35 #[zv h m] w fun e w'=>∃(A:Option Addr) (n c:Nat) (f pc er:Int),e= .returned (.tuple #[.slice A n c,.int .i64 f,.int .i64 pc,.int .i64 er])/\Below w.heap.size w w'/\(er=0\/er=4)/\(¬er=0->Bc m)/\(er=0->∃l,l.length=n/\Vw m w w' A c l/\bQ m l):=by
 refine(q4f m h w H hm (by have:=hm.fits.ml;omega)).mono fun e w' ⟨A,n,c,f,pc,er,h1,h2,h3,h4,h5⟩=>⟨A,n,c,f,pc,er,h1,h2,h3,h4,fun he=> ?_⟩
 obtain⟨XS,a1,a2,a3,a4,a5,a6⟩:=h5 he;have Hr:YB (qL (old w) w') (.slice A n c) XS:=⟨fun p hp=>qgp (a4.outs p hp) (a5 p hp).1 (a5 p hp).2,a4.apart,a4.diff,fun g hg q hq k v hc=>a4.dry g hg q hq k v (gQ.mp hc).2⟩
 exact SQ (w:=w) hm a1 a2 (qgm a3) Hr (by grind) fun i p hp=>⟨(a6 i p hp).set,a6 i p hp⟩
theorem qbe{m:za}{h:zh}{w0 w:World}{r:Int}(HI:Hid (zr w0 w0.heap.size h m))(HX:Hid (Below w0.heap.size w0 w))(HR:Hid (jQ m=r)):
  Calls Tryz.prog 34 #[zv h m] w fun e w'=>e= .returned (.int .i64 r)/\Below w.heap.size w w':=by
 have H:=q6d m h w (HI.out.now HX.out);rw[HR.out]at H;exact H
theorem qas{m:za}{h:zh}{w0 w:World}(HI:Hid (zr w0 w0.heap.size h m))(HX:Hid (Below w0.heap.size w0 w))(HM:Hid (zP m)):
  Calls Tryz.prog 35 #[zv h m] w fun e w'=>∃(A:Option Addr) (n c:Nat) (f pc er:Int),e= .returned (.tuple #[.slice A n c,.int .i64 f,.int .i64 pc,.int .i64 er])/\Below w.heap.size w w'/\(er=0\/er=4)/\(¬er=0->Bc m)/\(er=0->∃l,l.length=n/\Vw m w w' A c l/\bQ m l):=
 q3o m h w (HI.out.now HX.out) HM.out
theorem qey{m:za}{l:List (List zq)}{A:Option Addr}{c k:Nat}{h:zh}{w0 w:World}(HI:Hid (zr w0 w0.heap.size h m))(HX:Hid (Below w0.heap.size w0 w))(HS:Hid (Ql m=true))(HT:Hid (jO m w A c l))(HK:Hid (l.length=k)):
  Calls Tryz.prog 13 #[zv h m,.slice A k c] w (Uz m l w):=by
 obtain rfl:=HK.out;exact SF m l A c h w (HI.out.now HX.out) HS.out HT.out
theorem qc8{m:za}{l:List (List zq)}{A:Option Addr}{c k:Nat}{h:zh}{w0 w:World}(HI:Hid (zr w0 w0.heap.size h m))(HX:Hid (Below w0.heap.size w0 w))(HS:Hid (Ql m=true))(HT:Hid (jO m w A c l))(HK:Hid (l.length=k)):
  Calls Tryz.prog 36 #[zv h m,.slice A k c] w fun e w'=>∃f er:Int,e= .returned (.tuple #[.int .i64 f,.int .i64 er])/\Below w.heap.size w w'/\(0<=Zy m l->er=6)/\(¬0<=Zy m l->er=0):=by
 obtain rfl:=HK.out;refine(q7a m l A c h w (HI.out.now HX.out) HS.out HT.out).mono (by grind)
def UA(m:za)(w:World)(e:Ending)(w':World):Prop:=∃A n c er,e= .returned (.tuple #[.slice A n c,.int .i64 er])/\Below w.heap.size w w'/\YT m er n (Vw m w w' A c)
theorem YT.mono{m:za}{er:Int}{n:Nat}{T T':List (List zq)->Prop}(h:YT m er n T)(ht:∀l,T l->T' l):YT m er n T':=by
 rcases h with q|q|⟨h1,l,h2,h3,h4,h5⟩
 ·exact .inl q
 ·exact .inr (.inl q)
 ·exact .inr (.inr ⟨h1,l,h2,h3,h4,fun e=>⟨(h5 e).1,ht l (h5 e).2⟩⟩)
theorem O3{P:Prop}(h:P:=by
 go_wp2_with fail
 refine Xk (v:= .tuple #[.slice none 0 0,.int .i64 7]) (by simp[results,Tryz.results12,go_sem]) rfl ?_;exact⟨none,0,0,7,rfl,HW.out.trans (qc.out.mono (Xg HZ.out)),.inr (.inr ⟨HR.out,l,Zg.out,HE.out.symm,fun _=>rfl,(fun e=>by cases e)⟩)⟩):P:=h
set_option maxHeartbeats 6400000 in
theorem Ki(m:za)(h:zh)(w:World)(H:zr w w.heap.size h m):
  Calls Tryz.prog 12 #[zv h m] w (UA m w):=by
 have HW:=zH (vU (w:=w) (h:=h) (m:=m));have HBX:=zH (qd w h m);have HZ:Hid (w.heap.size<(w.alloc (ze h m)).heap.size):=zH (by simp);have HI:=zH (H.now HW.out);obtain⟨r,hr⟩:∃z,jQ m=z:=⟨_,rfl⟩
 have HR:=zH hr;clear H hr;go_enter Tryz.func12,Tryz.ntmps12;go_upto_region 1 with fail
 generalize w.alloc (ze h m)=w1 at*
 obtain⟨q0,q1,q2,q3,q4,q5,q6⟩:=HBX.out;have HX:=qP w1;go_upto_region 2 with(go_at_call 34;(with_reducible refine(qbe HI HX HR).mono ?_);rintro e w2 ⟨rfl,hb⟩;have HX2:=zi HX hb;clear hb)
 clear q0 q1 q2 q3 q4 q5 q6;obtain⟨q0,q1,q2,q3,q4,q5,q6⟩:=HBX.out.keep HX2.out HZ.out;by_cases hr0:r=0;rotate_left
 ·have hne:(r !=0)=true:=XP.mpr hr0;have HN:Hid (r≠0):=zH hr0;clear hr0;go_wp2_with fail
  refine Xk (v:= .tuple #[.slice none 0 0,.int .i64 r]) (by simp[results,Tryz.results12,go_sem]) rfl ?_;exact⟨none,0,0,r,rfl,HW.out.trans (HX2.out.mono (Xg HZ.out)),.inl ⟨by rw[HR.out];exact HN.out,HR.out.symm,rfl⟩⟩
 subst hr0;have HS:=zH (Kq HR.out);have HM:=zH (mW HR.out);go_upto_region 5 with(go_at_call 35;(with_reducible refine(qas HI HX2 HM).mono ?_);rintro e w3 ⟨Al,nl,cl,f1,p1,er,rfl,hb,hor,hno,Qd⟩;have zp:=zi HX2 hb;have HOR:=zH hor;have qz:=zH hno;have vy:=zH Qd;clear hb hor hno Qd)
 clear q0 q1 q2 q3 q4 q5 q6;obtain⟨q0,q1,q2,q3,q4,q5,q6⟩:=HBX.out.keep zp.out HZ.out;by_cases he0:er=0;rotate_left
 ·obtain rfl:er=4:=HOR.out.resolve_left he0;have aX:=zH (qz.out he0);clear he0;go_wp2_with fail
  refine Xk (v:= .tuple #[.slice none 0 0,.int .i64 4]) (by simp[results,Tryz.results12,go_sem]) rfl ?_;exact⟨none,0,0,4,rfl,HW.out.trans (zp.out.mono (Xg HZ.out)),.inr (.inl ⟨HR.out,rfl,rfl,aX.out⟩)⟩
 subst he0;obtain⟨l,hll,hty,hfa⟩:=vy.out rfl;have kA:=zH hty;have HT:=zH hty.in_;have HZ2:Hid (w.heap.size<=w2.heap.size):=zH (Xe HW.out.size HX2.out.size);have Zg:=zH hfa;have kD:=zH hll;clear hll hty hfa vy qz HOR;go_upto_region 8 with(go_at_call 13;(with_reducible refine(qey HI zp HS HT kD).mono ?_);rintro e w4 ⟨sn,pn,e2,rfl,hb,hno,Qd⟩;have jw:=zH hb;have HX4:=zi zp hb;have qz:=zH hno;have vy:=zH Qd;clear hb hno Qd)
 clear q0 q1 q2 q3 q4 q5 q6;obtain⟨q0,q1,q2,q3,q4,q5,q6⟩:=HBX.out.keep HX4.out HZ.out;by_cases hrb:kQ m=true;rotate_left
 ·have hrb:kQ m=false:=by simpa using hrb
  obtain rfl:=qz.out hrb;have HE:Hid (vv m l=5):=zH (by unfold vv;rw[Xb hrb]);clear hrb;go_wp2_with fail
  refine Xk (v:= .tuple #[.slice none 0 0,.int .i64 5]) (by simp[results,Tryz.results12,go_sem]) rfl ?_;exact⟨none,0,0,5,rfl,HW.out.trans (HX4.out.mono (Xg HZ.out)),.inr (.inr ⟨HR.out,l,Zg.out,HE.out.symm,fun _=>rfl,(fun e=>by cases e)⟩)⟩
 obtain⟨rfl,hs1,hs2⟩:=vy.out hrb;have jS:=zH hs1;have bF:=zH hs2;have Zs:=zH hrb;have q1q:=zH (kA.out.now jw.out);have Ja:=zH q1q.out.in_;clear hs1 hs2 vy qz hrb;go_upto_region 11 with(go_at_call 36;(with_reducible refine(qc8 HI HX4 HS Ja kD).mono ?_);rintro e w5 ⟨f5,e5,rfl,hb,hp1,hp2⟩;have kh:=zH hb;have qc:=zi HX4 hb;have HP1:=zH hp1;have gJ:=zH hp2;clear hb hp1 hp2)
 clear q0 q1 q2 q3 q4 q5 q6;obtain⟨q0,q1,q2,q3,q4,q5,q6⟩:=HBX.out.keep qc.out HZ.out;by_cases hp0:0<=Zy m l
 ·obtain rfl:=HP1.out hp0;have HE:Hid (vv m l=6):=zH (by unfold vv;rw[Xa (by rw[Zs.out];decide),Xb hp0]);clear hp0;go_wp2_with fail
  refine Xk (v:= .tuple #[.slice none 0 0,.int .i64 6]) (by simp[results,Tryz.results12,go_sem]) rfl ?_;exact⟨none,0,0,6,rfl,HW.out.trans (qc.out.mono (Xg HZ.out)),.inr (.inr ⟨HR.out,l,Zg.out,HE.out.symm,fun _=>rfl,(fun e=>by cases e)⟩)⟩
 obtain rfl:=gJ.out (by first|exact hp0|omega);have tK:Hid (vv m l=if iw m l=true then 7 else 0):=zH (by unfold vv;rw[Xa (by rw[Zs.out];decide),Xa hp0]);have tY:Hid (iw m l=(decide (sn>m.stack)||decide (pn>m.heap))):=zH (by unfold iw;rw[jS.out,bF.out]);clear hp0 HP1 gJ;by_cases h1:sn>m.stack
 ·have HE:Hid (vv m l=7):=zH (by rw[tK.out,Xb (by rw[tY.out,Xi h1];rfl)]);exact O3
 by_cases h2:pn>m.heap
 ·have HE:Hid (vv m l=7):=zH (by rw[tK.out,Xb (by rw[tY.out,Xi h2,Bool.or_true])]);exact O3
 ·have HE:Hid (vv m l=0):=zH (by rw[tK.out,Xa (by rw[tY.out,Xf h1,Xf h2];decide)]);have tq:=zH ((q1q.out.now kh.out).to HZ2.out (zn _) (fun _ _ _=>rfl));go_wp2_with fail
  refine Xk (v:= .tuple #[.slice Al nl cl,.int .i64 0]) (by simp[results,Tryz.results12,go_sem]) rfl ?_;exact⟨Al,nl,cl,0,rfl,HW.out.trans (qc.out.mono (Xg HZ.out)),.inr (.inr ⟨HR.out,l,Zg.out,HE.out.symm,fun e=>absurd rfl e,fun _=>⟨kD.out.symm,tq.out⟩⟩)⟩
def UB(L:List Int)(w:World)(e:Ending)(w':World):Prop:=
 ∃(h:zh) (x:za) (A:Option Addr) (n c:Nat) (er:Int),e= .returned (.tuple #[zv h x,.slice A n c,.int .i64 er])/\zr w' w'.heap.size h x/\Below w.heap.size w w'/\
  ∃x0 ed,rT L x0 ed/\(∀i ∈x0.ints,OkL i)/\((ed≠0/\er=2/\x=ji/\n=0)\/(ed=0/\YT x0 er n (jO x0 w' A c)/\(er=0->x=x0)/\(er≠0->x=ji)))
structure bV(w:World)(A:Option Addr)(c:Nat)(L:List Int):Prop where
 len:L.length<=1048576
 le:L.length<=c
 cap:c<=9223372036854775807
 rng:∀b ∈L,0<=b/\b<=255
 none:A=none->c=0
 lie:zw w w.heap.size A (L.map (Value.int .u8))
theorem bV.keep{w w':World}{A:Option Addr}{c:Nat}{L:List Int}(h:bV w A c L)(hb:Below w.heap.size w w'):bV w' A c L:=⟨h.len,h.le,h.cap,h.rng,h.none,V7 h.lie hb⟩
theorem q8a{w:World}{A:Option Addr}{c n:Nat}{L:List Int}(H:Hid (bV w A c L))(HN:Hid (L.length=n)):Calls Tryz.prog 27 #[.slice A n c] w (q11 L w):=by
 obtain rfl:=HN.out;exact q52 L A c w.heap.size w H.out.len H.out.le H.out.cap H.out.rng H.out.none (zn _) H.out.lie
theorem qf7{m:za}{h:zh}{w:World}(HI:Hid (zr w w.heap.size h m)):Calls Tryz.prog 12 #[zv h m] w (UA m w):=Ki m h w HI.out
theorem YT.err{m:za}{er:Int}{n:Nat}{T T':List (List zq)->Prop}(h:YT m er n T)(he:er≠0):YT m er n T':=by
 rcases h with q|q|⟨h1,l,h2,h3,h4,_⟩
 ·exact .inl q
 ·exact .inr (.inl q)
 ·exact .inr (.inr ⟨h1,l,h2,h3,h4,fun e=>absurd e he⟩)
set_option maxHeartbeats 6400000 in
theorem qa5(L:List Int)(A:Option Addr)(c:Nat)(w:World)(hl:L.length<=1048576)(hc:L.length<=c)(hcap:c<=9223372036854775807)(hr:∀b ∈L,0<=b/\b<=255)(hA:A=none->c=0)(h:zw w w.heap.size A (L.map (Value.int .u8))):
  Calls Tryz.prog 8 #[.slice A L.length c] w (UB L w):=by
 have HW:=zH ((zb w.heap.size w).alloc (zn _) jV);have HZ:Hid (w.heap.size<(w.alloc jV).heap.size):=zH (by simp);have Zh:Hid ((w.alloc jV).heap[w.heap.size]? =some (.cells Fs.toArray 29 (0,0))):=zH (Xz _ _);have HB:=zH ((⟨hl,hc,hcap,hr,hA,h⟩:bV w A c L).keep HW.out);obtain⟨n,hn⟩:∃z,L.length=z:=⟨_,rfl⟩
 have HN:=zH hn;rw[hn];clear hl hc hcap hr hA h hn;go_enter Tryz.func8,Tryz.ntmps8;go_upto_region 1 with fail
 generalize w.alloc jV=w1 at*
 go_upto_region 2 with(go_at_call 27;(with_reducible refine(q8a HB HN).mono ?_);rintro e w2 ⟨hh,x0,ed,rfl,hi,hb,hd⟩;have HI2:=zH hi;have HX2:=zH hb;have HD:=zH hd;clear hi hb hd)
 have hA3:Below w2.heap.size w2 (w2.alloc (ze hh x0)):=zk;have HBX:=zH (qd w2 hh x0);have HZ3:Hid (w2.heap.size<(w2.alloc (ze hh x0)).heap.size):=zH (by simp);have HIH:=zH (pW (S':=old w1) HI2.out hA3.size fun b hb hs=>⟨hs,hA3.block b hb⟩);have HI3:=zH (Dt HIH.out);have zp:=zi HX2 hA3;have HJ3:=zH ((zp.out.block _ HZ.out).trans Zh.out);have vQ:Hid (∀i ∈x0.ints,OkL i):=zH (LZ HI3.out);obtain⟨N3,sN⟩:∃z,w2.heap.size=z:=⟨_,rfl⟩
 clear hA3;simp only[sN]at HBX HZ3⊢
 clear sN;generalize w2.alloc (ze hh x0)=w3 at*
 by_cases h0:ed=0;rotate_left
 ·obtain⟨rfl,rfl⟩:ed=2/\x0=ji:=by
   rcases HD.out with⟨q,_⟩|⟨q,q2,_⟩
   ·exact absurd q h0
   ·exact⟨q,q2⟩
  have JJ:=HJ3.out;have p0:=zR JJ 0 _ rfl;have p1:=zR JJ 1 _ rfl;have p2:=zR JJ 2 _ rfl;have p3:=zR JJ 3 _ rfl;have p4:=zR JJ 4 _ rfl;have p5:=zR JJ 5 _ rfl;have p6:=zR JJ 6 _ rfl;have g0:=zU JJ 0;have g1:=zU JJ 1;have g2:=zU JJ 2;have g3:=zU JJ 3;have g4:=zU JJ 4;have g5:=zU JJ 5;have g6:=zU JJ 6;clear JJ h0;go_wp2_with fail
  refine Xk (v:= .tuple #[zv VK ji,.slice none 0 0,.int .i64 2]) (by simp[results,Tryz.results8,go_sem,p0,p1,p2,p3,p4,p5,p6,ji]) rfl ?_;exact⟨VK,ji,none,0,0,2,rfl,wC _ _,pg (zD HW zp) _ _ _ _ _ _ _,ji,2,HD.out,vQ.out,.inl ⟨by decide,rfl,rfl,rfl⟩⟩
 subst h0;obtain⟨q0,q1,q2,q3,q4,q5,q6⟩:=HBX.out;go_upto_region 5 with(go_at_call 12;(with_reducible refine(qf7 HI3).mono ?_);rintro e w4 ⟨Aa,na,ca,er,rfl,hb,ha⟩;have HA:=zH ha;have HX4:=zi zp hb;have Cx:=zH (HBX.out.keep hb HZ3.out);have qm9:=zH (pW (S':=old w1) HIH.out hb.size fun b hb' hs=>⟨hs,hb.block b hb'⟩);have om:=zH ((hb.block _ (Xp HZ.out zp.out.size)).trans HJ3.out);clear hb ha)
 clear q0 q1 q2 q3 q4 q5 q6;have JJ:=om.out;have p0:=zR JJ 0 _ rfl;have p1:=zR JJ 1 _ rfl;have p2:=zR JJ 2 _ rfl;have p3:=zR JJ 3 _ rfl;have p4:=zR JJ 4 _ rfl;have p5:=zR JJ 5 _ rfl;have p6:=zR JJ 6 _ rfl;have g0:=zU JJ 0;have g1:=zU JJ 1;have g2:=zU JJ 2;have g3:=zU JJ 3;have g4:=zU JJ 4;have g5:=zU JJ 5;have g6:=zU JJ 6;clear JJ;by_cases he:er=0;rotate_left
 ·have hn0:na=0:=(Eo HA.out).1 he;subst hn0;have HE:=zH he;have hne:(er !=0)=true:=XP.mpr he;clear he;go_wp2_with fail
  refine Xk (v:= .tuple #[zv VK ji,.slice none 0 0,.int .i64 er]) (by simp[results,Tryz.results8,go_sem,p0,p1,p2,p3,p4,p5,p6,ji]) rfl ?_;exact⟨VK,ji,none,0,0,er,rfl,wC _ _,pg (zD HW HX4) _ _ _ _ _ _ _,x0,0,HD.out,vQ.out,.inr ⟨rfl,HA.out.err HE.out,fun e=>absurd e HE.out,fun _=>rfl⟩⟩
 subst he;obtain⟨q0,q1,q2,q3,q4,q5,q6⟩:=Cx.out;go_wp2_with fail
 refine Xk (v:= .tuple #[zv hh x0,.slice Aa na ca,.int .i64 0]) (by simp[results,Tryz.results8,go_sem,p0,p1,p2,p3,p4,p5,p6]) rfl ?_;have hz1:=HZ.out;have hz3:=zp.out.size;refine⟨hh,x0,Aa,na,ca,0,rfl,Dt (pW (S':=old w1) qm9.out (by simp) fun b hb hs=>⟨hs,K3 (by have:=Yv.mp hs;omega) _ _ _ _ _ _ _⟩),pg (zD HW HX4) _ _ _ _ _ _ _,x0,0,HD.out,vQ.out,.inr ⟨rfl,HA.out.mono fun l q=> ?_,fun _=>rfl,fun e=>absurd rfl e⟩⟩;exact(q.to (zn _) (by simp) fun b _ hb=>K3 (by omega) _ _ _ _ _ _ _).in_
