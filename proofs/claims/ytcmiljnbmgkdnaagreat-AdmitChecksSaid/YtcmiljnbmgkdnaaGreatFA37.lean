import Derived.Test.YtcmiljnbmgkdnaaGreatFA36
import Derived.Test.YtcmiljnbmgkdnaaGreatFA32
namespace Go.Proofs.YtcmiljnbmgkdnaaGreat
set_option maxRecDepth 100000
set_option linter.unusedVariables false
set_option linter.unusedSimpArgs false
open Go.ChangeShapes Go.WideShapes Go.ChangeAt Go.RowKit
def qdk(m:za)(l:List (List zm))(w:World)(e:Ending)(w':World):Prop:=∃s p ok,e= .returned (.tuple #[.int .i64 s,.int .i64 p,.bool ok])∧Below w.heap.size w w'∧ok=jr m∧(ok=true→s=Zj m l∧p=kW m)
theorem qn4{m:za}{maps:List (List zm)}{A:Option Addr}{c n:Nat}{h:zg}{w0 w:World}(HI:Hid (zi w0 w0.heap.size h m))(HX:Hid (Below w0.heap.size w0 w))(HS:Hid (vd m=true))(HM:Hid (zd (zG jp 2) 1 w w.heap.size A c maps))(HZ:Hid (vK 4000 maps))(HN:Hid (maps.length=n)):
  Calls Tryz.prog 30 #[zk h m,.slice A n c] w (qdm m maps w):=by
 obtain rfl:=HN.out;exact qie m maps A c h w (HI.out.now HX.out) HS.out HM.out HZ.out
set_option maxHeartbeats 6400000 in
theorem qi4(m:za)(l:List (List zm))(A:Option Addr)(c:Nat)(h:zg)(w:World)(H:zi w w.heap.size h m)(hs:vd m=true)(hM:zd (zG jp 2) 1 w w.heap.size A c l)(hz:vK 4000 l):
  Calls Tryz.prog 13 #[zk h m,.slice A l.length c] w (qdk m l w):=by
 have hsn:=q7s hs;have HEN:=zH (fun f (hf:f ∈m.entries)=>q49 hsn hf);have HM:=zH (JE hsn);have HS:=zH hs;have HW:=zH (jz (w:=w) (h:=h) (m:=m));have HBX:=zH (zX w h m);have HZ:Hid (w.heap.size<(w.alloc (zo h m)).heap.size):=zH (by simp);have HI:=zH (H.now HW.out);have HM0:=zH (qX RowAt.keeps hM HW.out);have HMZ:=zH hz;have HER:=zH (zd.row (HI.out.entries));have hle:=H.entries.le;have hcap:=H.entries.cap;have hml:=H.methods.le;have hmc:=H.methods.cap;have hsl:=(JE hsn).fits.sl;have HLN:Hid (l.length=l.length):=zH rfl;obtain⟨nl,hnl⟩:∃z,l.length=z:=⟨_,rfl⟩
 rw[hnl];have HLN:=zH hnl;clear H hs hM hz hsn hnl;obtain⟨A0,Ab,A2,A3,A4,k0,k1,k2,k3,k4⟩:=h;dsimp only at hle hcap hml hmc HER;go_enter Tryz.func13,Tryz.ntmps13;go_upto_region 1 with fail
 generalize w.alloc (zo ⟨A0,Ab,A2,A3,A4,k0,k1,k2,k3,k4⟩ m)=w1 at*
 obtain⟨q0,q1,q2,q3,q4,q5,q6⟩:=HBX.out;dsimp only at q0 q1 q2 q3 q4 q5 q6;have HX0:Hid (Below w1.heap.size w1 w1):=zH (zb _ _);go_upto_region 2 with(go_at_call 30;(with_reducible refine(qn4 HI HX0 HS HM0 HMZ HLN).mono ?_);rintro e w6 ⟨Ab6,nb6,cb6,ok,rfl,hb,hok,hyes⟩;have HX6:=zH hb;have HOK:=zH hok;have HYES:=zH hyes;clear hb hok hyes)
 clear q0 q1 q2 q3 q4 q5 q6;obtain⟨q0,q1,q2,q3,q4,q5,q6⟩:=HBX.out.keep HX6.out HZ.out;dsimp only at q0 q1 q2 q3 q4 q5 q6;cases ok
 ·go_wp2_with fail
  go_ret3
  exact⟨0,0,false,rfl,HW.out.trans (HX6.out.mono (Xk HZ.out)),HOK.out,fun e=>by cases e⟩
 obtain⟨hnb,hsb⟩:=HYES.out rfl;have HSB:=zH hsb;have hb1:=hsb.le;have hb2:=hsb.cap;rw[VZ]at hb1;clear hsb HYES;subst hnb;go_wp2_with fail
 go_loopw [9,10,11] (fun sv pv i wr=>∃k:Nat,k≤m.entries.length∧i= .int .i64 k∧sv= .int .i64 (ka (jA m l) (m.entries.take k))∧pv= .int .i64 (qH m (m.entries.take k))∧wr=w6) (fun _ _ i _=>m.entries.length - (intOf i).toNat)
 case atStart=>exact⟨0,Xl _,rfl,rfl,rfl,rfl⟩
 case round=>
  obtain⟨k,hk,rfl,rfl,rfl,hwr⟩:=hrel;obtain rfl:=hwr.symm;by_cases hlt:k<m.entries.length
  ·obtain⟨f,hf⟩:∃f,m.entries[k]=f:=⟨_,rfl⟩
   obtain⟨f0,f1⟩:=HEN.out f (by rw[←hf];exact Xd hlt);obtain⟨fn,rfl⟩:=Xm f0;have hfn:fn<m.methods.length:=by omega
   have HT1:Hid (ka (jA m l) (m.entries.take (k+1))=Jp (jA m l) (ka (jA m l) (m.entries.take k)) (fn:Int)):=zH (by rw[qhf hlt,hf]);have HT2:Hid (qH m (m.entries.take (k+1))=jM m (qH m (m.entries.take k)) (fn:Int)):=zH (by rw[q5g hlt,hf]);obtain⟨adE,rfl,habE,e0⟩:=HER.out.at_ hlt;rw[Xq,hf]at e0;have e1:=(HX6.out.cell (p:=adE.add k) (by rw[zp];exact habE)).trans e0;obtain⟨adB,rfl,habB,b0⟩:=HSB.out.row.at_ (show fn<(jA m l).length by rw[VZ];exact hfn);rw[Xq,←Zb (show fn<(jA m l).length by rw[VZ];exact hfn)]at b0;obtain⟨adM,hxm,eM,habM,hin,hcm⟩:=jJ HI.out hfn;dsimp only at eM;subst eM;have c6:=(hcm.keep HX6.out (by rw[zp];exact habM)).c6;have hpt:(zu m (fn:Int))=m.methods[fn]:=by unfold zu;rw[Xe,Xc hfn];rfl
   obtain⟨bv,hbv⟩:∃z,oN (jA m l) fn=z:=⟨_,rfl⟩
   obtain⟨pv,hpv⟩:∃z,m.methods[fn].pot=z:=⟨_,rfl⟩
   rw[hbv]at b0;replace b0:w6.cell? (adB.add fn)=some (.int .i64 bv):=b0;rw[hpv]at c6;have HS1:Hid (∀s,Jp (jA m l) s (fn:Int)=if bv>s then bv else s):=zH (fun s=>by unfold Jp;rw[Xe,hbv]);have HS2:Hid (∀p,jM m p (fn:Int)=if pv>p then pv else p):=zH (fun p=>by unfold jM;rw[hpt,hpv]);generalize ka (jA m l) (m.entries.take k)=sv at*
   generalize qH m (m.entries.take k)=pq at*
   clear hbv hpv hpt hcm hin e0 hf;by_cases h1:bv>sv;all_goals by_cases h2:pv>pq
   all_goals
    go_wp2_with fail
    go_roundw
   any_goals case measure=>simp[intOf];omega
   ·exact⟨k+1,by omega,by go_num,by rw[HT1.out,HS1.out,Xb h1],by rw[HT2.out,HS2.out,Xb h2],by first|rfl|trivial⟩
   ·exact⟨k+1,by omega,by go_num,by rw[HT1.out,HS1.out,Xb h1],by rw[HT2.out,HS2.out,Xa h2],by first|rfl|trivial⟩
   ·exact⟨k+1,by omega,by go_num,by rw[HT1.out,HS1.out,Xa h1],by rw[HT2.out,HS2.out,Xb h2],by first|rfl|trivial⟩
   ·exact⟨k+1,by omega,by go_num,by rw[HT1.out,HS1.out,Xa h1],by rw[HT2.out,HS2.out,Xa h2],by first|rfl|trivial⟩
  ·obtain rfl:k=m.entries.length:=by omega
   have hki:¬(m.entries.length:Int)<(m.entries.length:Int):=by omega
   have HSN:Hid (ka (jA m l) (m.entries.take m.entries.length)=Zj m l):=zH (by rw[XP];rfl);have hp:=q21 HM.out (m.entries.take m.entries.length);have HHN:Hid (kW m=(m.statics.length:Int)+qH m (m.entries.take m.entries.length)):=zH (by rw[XP];rfl);rw[HSN.out];generalize qH m (m.entries.take m.entries.length)=pq at*
   go_wp2_with fail
   go_region
   go_wp2_with fail
   go_ret3
   exact⟨_,_,true,rfl,HW.out.trans (HX6.out.mono (Xk HZ.out)).drew,HOK.out,fun _=>⟨rfl,HHN.out.symm⟩⟩
def kY(m:za)(l:List (List zm)):Prop:=l.length=m.methods.length∧∀(i:Nat) S,l[i]? =some S→Jh m (i:Int) S∧kA m (i:Int) S
def q0t(m:za):Prop:=∀a,Qz m a=false
def QA(m:za)(l:List (List zm)):Bool:=decide (Zj m l>m.stack)||decide (kW m>m.heap)
def qV(m:za)(l:List (List zm)):Int:=if jr m=false then 5 else if 0≤jL m l then 6 else if QA m l=true then 7 else 0
def qdn(m:za)(w:World)(e:Ending)(w':World):Prop:=∃A n c er,e= .returned (.tuple #[.slice A n c,.int .i64 er])∧Below w.heap.size w w'∧
 ((qK m≠0∧er=qK m∧n=0)∨(qK m=0∧er=4∧n=0∧q0t m)∨(qK m=0∧∃l,kY m l∧er=qV m l∧(er≠0→n=0)∧(er=0→n=l.length∧qU m w' A c l)))
theorem qa6{m:za}{w w':World}{A:Option Addr}{n c:Nat}{XS:List (Nat×List zj)}(hm:zK m)(h1:n=m.methods.length)(h2:XS.length=n)(h3:w'.ownsRow w.heap.size 73 1 (.slice A n c) n (Qk XS))(h4:Zd w' (.slice A n c) XS)(h5:∀p ∈XS,w.heap.size≤p.1)
  (h6:∀(i:Nat) p,XS[i]? =some p→Jh m (i:Int) (p.2.map zj.shp)∧kA m (i:Int) (p.2.map zj.shp)):∃l,l.length=n∧qU m w' A c l∧kY m l:=by
 have hfd:∀p ∈XS,p.2.length≤64∧∀s ∈p.2.map zj.shp,s.stack.length≤8:=fun p hp=>by
  obtain⟨i,hi,e⟩:=Wi hp;have hf:=(h6 i p (by rw[Xc hi,e])).1;have hlt:i<m.methods.length:=by omega
  have hx:zu m (i:Int) ∈m.methods:=by unfold zu;rw[Xe,Xc hlt];exact Xd hlt
  have hl:=hf.grow.len;rw[Xi]at hl;exact⟨by have:=(hm.method hx).fits.cl;omega,hf.grow.small⟩
 have hln:(QC XS).length=n:=by unfold QC;rw[Xi];exact h2
 have hall:∀(i:Nat) S,(QC XS)[i]? =some S→Jh m (i:Int) S∧kA m (i:Int) S:=fun i S hS=>by
  unfold QC at hS;rw[Xx]at hS;cases hp:XS[i]? with
  |none=>rw[hp]at hS;cases hS
  |some p=>rw[hp]at hS;cases hS;exact h6 i p hp
 refine⟨QC XS,hln,⟨qv4 h3 h2 h4.outs (fun p hp=>by have:=(hfd p hp).1;omega),fun S hS=> ?_,by rw[hln,h1],fun i S hS=>(hall i S hS).1⟩,by rw[hln,h1],hall⟩;unfold QC at hS;obtain⟨p,hp,rfl⟩:=XW.mp hS;obtain⟨a1,a2⟩:=hfd p hp;exact⟨by rw[Xi];omega,fun s hs=>by have:=a2 s hs;omega⟩
theorem qcf{m:za}{h:zg}{w0 w:World}{r:Int}(HI:Hid (zi w0 w0.heap.size h m))(HX:Hid (Below w0.heap.size w0 w))(HR:Hid (qK m=r)):
  Calls Tryz.prog 24 #[zk h m] w fun e w'=>e= .returned (.int .i64 r)∧Below w.heap.size w w':=by
 have H:=qmu m h w (HI.out.now HX.out);rw[HR.out]at H;exact H
theorem qu6{m:za}{h:zg}{w0 w:World}(HI:Hid (zi w0 w0.heap.size h m))(HX:Hid (Below w0.heap.size w0 w))(HM:Hid (zK m)):
  Calls Tryz.prog 25 #[zk h m] w (qep m w):=qn8 m h w (HI.out.now HX.out) HM.out (by have:=HM.out.fits.ml;omega)
theorem qam{m:za}{l:List (List zm)}{A:Option Addr}{c k:Nat}{h:zg}{w0 w:World}(HI:Hid (zi w0 w0.heap.size h m))(HX:Hid (Below w0.heap.size w0 w))(HS:Hid (vd m=true))(HT:Hid (qU m w A c l))(HK:Hid (l.length=k)):
  Calls Tryz.prog 13 #[zk h m,.slice A k c] w (qdk m l w):=by
 obtain rfl:=HK.out;exact qi4 m l A c h w (HI.out.now HX.out) HS.out HT.out.1 HT.out.z4
set_option maxHeartbeats 6400000 in
theorem qih(m:za)(h:zg)(w:World)(H:zi w w.heap.size h m):
  Calls Tryz.prog 11 #[zk h m] w (qdn m w):=by
 have HW:=zH (jz (w:=w) (h:=h) (m:=m));have HBX:=zH (zX w h m);have HZ:Hid (w.heap.size<(w.alloc (zo h m)).heap.size):=zH (by simp);have HI:=zH (H.now HW.out);clear H;obtain⟨r,hr⟩:∃r,qK m=r:=⟨_,rfl⟩
 have HR:=zH hr;obtain⟨A0,Ab,A2,A3,A4,k0,k1,k2,k3,k4⟩:=h;by_cases hr0:r=0;rotate_left
 ·have hne:(r !=0)=true:=by simpa using hr0
  have HNE:Hid (qK m≠0):=zH (by rw[hr];exact hr0);clear hr hr0;go_enter Tryz.func11,Tryz.ntmps11;go_upto_region 1 with fail
  generalize w.alloc (zo ⟨A0,Ab,A2,A3,A4,k0,k1,k2,k3,k4⟩ m)=w1 at*
  obtain⟨q0,q1,q2,q3,q4,q5,q6⟩:=HBX.out;have HX:Hid (Below w1.heap.size w1 w1):=zH (zb _ _);go_wp2_with(go_at_call 24;(with_reducible refine(qcf HI HX HR).mono ?_);rintro e w2 ⟨rfl,hb⟩;have HX2:=zl HX hb;clear hb)
  go_ret2
  exact⟨none,0,0,r,rfl,HW.out.trans (HX2.out.mono (Xk HZ.out)),.inl ⟨HNE.out,HR.out.symm,rfl⟩⟩
 subst hr0;have HM:=zH (JE hr);have HS:=zH (q03 hr);clear hr;go_enter Tryz.func11,Tryz.ntmps11;go_upto_region 1 with fail
 generalize w.alloc (zo ⟨A0,Ab,A2,A3,A4,k0,k1,k2,k3,k4⟩ m)=w1 at*
 obtain⟨q0,q1,q2,q3,q4,q5,q6⟩:=HBX.out;have HX:Hid (Below w1.heap.size w1 w1):=zH (zb _ _);go_upto_region 4 with(go_at_call 24;(with_reducible refine(qcf HI HX HR).mono ?_);rintro e w2 ⟨rfl,hb⟩;have HX2:=zl HX hb;clear hb)
 clear q0 q1 q2 q3 q4 q5 q6;obtain⟨q0,q1,q2,q3,q4,q5,q6⟩:=HBX.out.keep HX2.out HZ.out;go_upto_region 5 with(go_at_call 25;(with_reducible refine(qu6 HI HX2 HM).mono ?_);rintro e w3 ⟨Al,nl,cl,bad,rfl,hb,hyes,hno⟩;have HX3:=zl HX2 hb;have HYES:=zH hyes;have HNO:=zH hno;clear hb hyes hno)
 clear q0 q1 q2 q3 q4 q5 q6;obtain⟨q0,q1,q2,q3,q4,q5,q6⟩:=HBX.out.keep HX3.out HZ.out;by_cases hbad:0≤bad
 ·have hge:bad ≥ 0:=hbad;have HNM:=zH (HNO.out hbad);go_wp2_with fail
  go_ret2
  exact⟨none,0,0,4,rfl,HW.out.trans (HX3.out.mono (Xk HZ.out)),.inr (.inl ⟨HR.out,rfl,rfl,HNM.out⟩)⟩
 have hlt:¬bad ≥ 0:=hbad;obtain⟨XS,h1,h2,h3,h4,h5,h6⟩:=HYES.out (by omega);obtain⟨l,hll,hty,hfa⟩:=qa6 HM.out h1 h2 h3 h4 h5 (fun i p hp=>⟨(h6 i p hp).1.set,(h6 i p hp).2⟩);have HT:=zH hty;have HFA:=zH hfa;have HLL:=zH hll;clear h1 h2 h3 h4 h5 h6 hty hfa hll HYES HNO XS;go_upto_region 8 with(go_at_call 13;(with_reducible refine(qam HI HX3 HS HT HLL).mono ?_);rintro e w4 ⟨sn,pn,ok,rfl,hb,hok,hyes⟩;have HB4:=zH hb;have HX4:=zl HX3 hb;have HOK:=zH hok;have HYES:=zH hyes;clear hb hok hyes)
 clear q0 q1 q2 q3 q4 q5 q6;obtain⟨q0,q1,q2,q3,q4,q5,q6⟩:=HBX.out.keep HX4.out HZ.out;cases ok
 ·have HE:Hid (qV m l=5):=zH (by unfold qV;rw[Xb HOK.out.symm]);go_wp2_with fail
  go_ret2
  exact⟨none,0,0,5,rfl,HW.out.trans (HX4.out.mono (Xk HZ.out)),.inr (.inr ⟨HR.out,l,HFA.out,HE.out.symm,fun _=>rfl,fun e=>by cases e⟩)⟩
 obtain⟨hs1,hs2⟩:=HYES.out rfl;have HSN:=zH hs1;have HPN:=zH hs2;have HRB:Hid (jr m=true):=zH HOK.out.symm;clear hs1 hs2 HYES HOK;have HT4:=zH (HT.out.now HB4.out);obtain⟨pt,hpt⟩:∃z,jL m l=z:=⟨_,rfl⟩
 have HPT:=zH hpt;clear hpt;by_cases hp0:0≤pt
 ·have hge:pt ≥ 0:=hp0;have HE:Hid (qV m l=6):=zH (by unfold qV;rw[Xa (by rw[HRB.out];decide),Xb (by rw[HPT.out];exact hp0)]);go_wp2_with(go_at_call 26;(with_reducible refine(qcg HI HX4 HM HT4 HLL HPT).mono ?_);rintro e w5 ⟨rfl,hb⟩;have HX5:=zl HX4 hb;clear hb)
  go_ret2
  exact⟨none,0,0,6,rfl,HW.out.trans (HX5.out.mono (Xk HZ.out)),.inr (.inr ⟨HR.out,l,HFA.out,HE.out.symm,fun _=>rfl,fun e=>by cases e⟩)⟩
 have hlt0:¬pt ≥ 0:=hp0;have HAE:Hid (qV m l=if QA m l=true then 7 else 0):=zH (by unfold qV;rw[Xa (by rw[HRB.out];decide),Xa (by rw[HPT.out];exact hp0)]);have HQB:Hid (QA m l=(decide (sn>m.stack)||decide (pn>m.heap))):=zH (by unfold QA;rw[HSN.out,HPN.out]);go_upto_region 12 with(go_at_call 26;(with_reducible refine(qcg HI HX4 HM HT4 HLL HPT).mono ?_);rintro e w5 ⟨rfl,hb⟩;have HB5:=zH hb;have HX5:=zl HX4 hb;clear hb)
 clear q0 q1 q2 q3 q4 q5 q6;obtain⟨q0,q1,q2,q3,q4,q5,q6⟩:=HBX.out.keep HX5.out HZ.out;by_cases h1:sn>m.stack
 ·have HE:Hid (qV m l=7):=zH (by rw[HAE.out,Xb (by rw[HQB.out,Xh h1];rfl)]);go_wp2_with fail
  go_ret2
  exact⟨none,0,0,7,rfl,HW.out.trans (HX5.out.mono (Xk HZ.out)),.inr (.inr ⟨HR.out,l,HFA.out,HE.out.symm,fun _=>rfl,fun e=>by cases e⟩)⟩
 by_cases h2:pn>m.heap
 ·have HE:Hid (qV m l=7):=zH (by rw[HAE.out,Xb (by rw[HQB.out,Xh h2,Bool.or_true])]);go_wp2_with fail
  go_ret2
  exact⟨none,0,0,7,rfl,HW.out.trans (HX5.out.mono (Xk HZ.out)),.inr (.inr ⟨HR.out,l,HFA.out,HE.out.symm,fun _=>rfl,fun e=>by cases e⟩)⟩
 ·have HE:Hid (qV m l=0):=zH (by rw[HAE.out,Xa (by rw[HQB.out,Xf h1,Xf h2];decide)]);have HT5:=zH (HT4.out.now HB5.out);go_wp2_with fail
  go_ret2
  exact⟨Al,nl,cl,0,rfl,HW.out.trans (HX5.out.mono (Xk HZ.out)),.inr (.inr ⟨HR.out,l,HFA.out,HE.out.symm,fun e=>absurd rfl e,fun _=>⟨HLL.out.symm,HT5.out⟩⟩)⟩
end Go.Proofs.YtcmiljnbmgkdnaaGreat
