import Derived.Test.YtnfeiginmngknaaGreatFZ26
namespace Go.Proofs.YtnfeiginmngknaaGreat
set_option maxRecDepth 100000
set_option linter.unusedVariables false
set_option linter.unusedSimpArgs false
open Go.ChangeShapes Go.WideShapes Go.ChangeAt Go.RowKit
set_option maxHeartbeats 1600000 in
theorem qfv(T:List Int)(A:Option Addr)(c:Nat)(w:World)(h:zw w w.heap.size A (T.map (Value.int .i64)))(h0:0<T.length)(hl:T.length<=1048576):
  Calls Tryz.prog 64 #[.slice A T.length c] w fun e w'=>e= .returned (.int .i64 (Jr T T.length))/\w=w':=by
 have HL:=zH h;clear h;obtain⟨ad,rfl,hab,hc0⟩:=HL.out 0 (.int .i64 T[0]) (by grind);have BZ:Hid (Jr T 1=T[0]):=zH (qh2 h0);obtain⟨t0,ht0⟩:∃z,T[0]=z:=⟨_,rfl⟩
 rw[ht0]at hc0 BZ;rw[show ad.add 0=ad by simp[Addr.add]]at hc0;obtain⟨n,hn⟩:=zj (T.length);have HN:=zH hn;rw[hn]at h0 hl⊢
 clear ht0 hn hab;have hn1:¬(n:Int)<1:=by omega
 go_enter Tryz.func64,Tryz.ntmps64;go_wp2_with fail
 go_loopw [3,4] (fun m i wr=>∃k:Nat,1<=k/\k<=n/\i= .int .i64 k/\m= .int .i64 (Jr T k)/\wr=w) (fun _ i _=>n - (intOf i).toNat)
 case atStart=>exact⟨1,zn _,h0,rfl,by rw[BZ.out],by grind⟩
 case round=>
  obtain⟨k,hk1,hk,rfl,rfl,hwr⟩:=hrel;have hwr:=hwr.symm;subst hwr;obtain⟨M,hM⟩:∃z,Jr T k=z:=⟨_,rfl⟩
  rw[hM];by_cases hlt:k<n
  ·have hkT:k<T.length:=by rw[HN.out];exact hlt
   obtain⟨Ye,e2,hab,ck⟩:=HL.out k (.int .i64 T[k]) (by grind);injection e2 with e2;subst e2;have HS:Hid (Jr T (k+1)=mx M T[k]):=zH (by rw[qcp hkT,hM]);generalize T[k]=x at*
   clear hM hab hc0 hkT;by_cases hg:M<x
   ·have HY:Hid (Jr T (k+1)=x):=zH (by rw[HS.out];unfold mx;omega);go_wp2_with fail
    go_roundw;case rel=>exact⟨k+1,by omega,by omega,by go_num,by rw[HY.out],by grind⟩
    case measure=>simp[intOf];omega
   ·have HY:Hid (Jr T (k+1)=M):=zH (by rw[HS.out];unfold mx;omega);go_wp2_with fail
    go_roundw;case rel=>exact⟨k+1,by omega,by omega,by go_num,by rw[HY.out],by grind⟩
    case measure=>simp[intOf];omega
  ·obtain rfl:k=n:=by omega
   clear hc0;have HE:=zH hM;clear hM;go_wp2_with fail
   go_ret;exact⟨by rw[HE.out];simp_all,rfl⟩
theorem Y4{T:List Int}{A:Option Addr}{c n:Nat}{w:World}{r:Int}(HL:Hid (zw w w.heap.size A (T.map (Value.int .i64))))(HN:Hid (T.length=n))(h0:0<n)(hl:n<=1048576)(HR:Hid (Jr T T.length=r)):
  Calls Tryz.prog 64 #[.slice A n c] w fun e w'=>e= .returned (.int .i64 r)/\w=w':=by
 obtain rfl:=HN.out;have H:=qfv T A c w HL.out h0 hl;rw[HR.out]at H;exact H
theorem qgw(p:List Nat):qe p=(p.map (fun k:Nat=>(k:Int))).map (Value.int .i64):=by unfold qe;simp_all
theorem Sl{p:List Nat}{R:Option Addr}{c k:Nat}{x:Int}{b:Bool}{w:World}(HR:Hid (zw w w.heap.size R (qe p)))(HP:Hid (p.Pairwise (· < ·)))(HK:Hid (p.length=k))(hk:k<=1000)(HB:Hid (fB p x=b)):
  Calls Tryz.prog 118 #[.slice R k c,.int .i64 x] w fun e w'=>∃i:Int,e= .returned (.tuple #[.int .i64 i,.bool (!b)])/\Below w.heap.size w w':=by
 have H:=Ry (p.map (fun k:Nat=>(k:Int))) x R c w (by rw[Xm,HK.out];omega) (by rw[<-qgw];exact HR.out) (List.pairwise_map.mpr (HP.out.imp (by omega)));rw[Xm,HK.out,show qb (p.map (fun k:Nat=>(k:Int))) x= !b by rw[<-HB.out];unfold fB;simp]at H;exact H
set_option maxHeartbeats 6400000 in
theorem q5j(EL:List (List Int))(n gB:Nat)(O:List Int)(p:List Nat)(E R:Option Addr)(ce cr:Nat)(w:World)(hE:zd (zM zu 1) 1 w w.heap.size E ce EL)(hn:EL.length=n)(fO:n<=12)(hED:Jl EL n)(hEl:∀g:Nat,(EL[g]?.getD []).length<=12)
  (hR:zw w w.heap.size R (qe p)) (hp:∀g ∈p,g<n) (hs:p.Pairwise (· < ·)) (hpl:p.length<=12) (hO:qk w gB O) (hOl:O.length=n) (hlow:∀t,0<=oN O t):
  Calls Tryz.prog 63 #[.slice E n ce,.slice R p.length cr,.slice (some ⟨gB,0,none⟩) n n] w fun e w'=>e= .returned (.int .i64 ((ZN EL p (oN O) p).foldl mx 0))/\Below w.heap.size w w':=by
 obtain⟨i1,hi1,hz01,hz11,hz21⟩:=jJ ZL;have hel:=hE.le;rw[hn]at hel;have HE:=zH hE;have HN:=zH hn;have Yi:=zH hED;have av:=zH hEl;have HR:=zH hR;have HP:=zH hp;have HS:=zH hs;have HO:=zH hO;have Vt:=zH hOl;have wZ:=zH hlow;obtain⟨np,Vq⟩:∃z,p.length=z:=⟨_,rfl⟩
 have vR:=zH Vq;obtain⟨r,hr⟩:∃z,(ZN EL p (oN O) p).foldl mx 0=z:=⟨_,rfl⟩
 have HRR:=zH hr;rw[Vq]at hpl⊢
 rw[hr];clear hE hn hED hEl hR hp hs hO hOl hlow Vq hr;have HX0:=qP w;go_enter Tryz.func63,Tryz.ntmps63;go_wp2_with fail
 go_loopw [7,16] (fun v i wr=>∃(k:Nat) (T:List Int),k<=np/\i= .int .i64 k/\Hid (ZN EL p (oN O) (p.take k)=T)/\Hid (wr.ownsRow w.heap.size 3 1 v T.length (T.map (Value.int .i64)))/\Hid (Below w.heap.size w wr)) (fun _ i _=>np - (intOf i).toNat)
 case atStart=>exact⟨0,[],Xn _,rfl,zH rfl,zH (XM _ _ _ _),HX0⟩
 case round=>
  clear HX0;obtain⟨k,T,hk,rfl,HT,HW,HX⟩:=hrel;have MX:T.length<=k*12:=by
   rw[<-HT.out];refine Xe (q4g av.out) ?_
   grind
  have hTl2:k*12<=144:=by omega
  by_cases hlt:k<np
  ·have hkp:k<p.length:=by rw[vR.out];exact hlt
   obtain⟨g,hg⟩:=zj (p[k]);have hgn:=HP.out p[k] (by grind);obtain⟨ar,rfl,har,r0⟩:=HR.out k (.int .i64 (g:Int)) (by unfold qe;grind);have r0:=(HX.out.cell (p:=ar.add k) (by grind [zC])).trans r0;rw[hg]at hgn;have xH:g<EL.length:=by rw[HN.out];exact hgn
   obtain⟨dI,rfl,x9,A1,cL,e0,jd⟩:=HE.out.row.at_ xH;obtain⟨L,hL⟩:∃z,EL[g]=z:=⟨_,rfl⟩
   rw[hL]at e0 jd;rw[Xq]at e0;have e0:=(HX.out.cell (p:=dI.add g) (by grind [zC])).trans e0;have hge:EL[g]?.getD []=L:=by grind
   have kL:=zH hge;have Qx:L.length<=12:=by rw[<-hge];exact av.out g
   have HTK:Hid (ZN EL p (oN O) (p.take (k+1))=T++Jh p (oN O) L):=zH (by rw[q3p hkp,HT.out,hg,hge]);have wW:=zH jd;clear hg hge hL jd xH har x9 hkp;go_wp2_with fail
   clear r0 e0;go_loopw [7,25] (fun v j wi=>∃(s:Nat) (T2:List Int),s<=L.length/\j= .int .i64 s/\Hid (T++Jh p (oN O) (L.take s)=T2)/\Hid (wi.ownsRow w.heap.size 3 1 v T2.length (T2.map (Value.int .i64)))/\Hid (Below w.heap.size w wi)) (fun _ j _=>L.length - (intOf j).toNat)
   case atStart=>exact⟨0,T,Xn _,rfl,zH (by simp[Jh]),HW,HX⟩
   case round=>
    clear HW HX;obtain⟨s,T2,hs,rfl,HT2,HW,HX⟩:=hrel;have hT2:T2.length<=156:=by
     rw[<-HT2.out,Xh];have h1:=Ph (p:=p) (out:=oN O) (L:=L.take s);rw[XW]at h1;omega
    by_cases hsl:s<L.length
    ·obtain⟨zZ,rfl,nL,l0⟩:=wW.out.row.at_ hsl;have l0:w.cell? (zZ.add s)=some (.int .i64 L[s]):=by have:=l0;rw[Xq]at this;exact this
     have l0:=(HX.out.cell (p:=zZ.add s) (by rw[zC];exact nL)).trans l0;obtain⟨t0,t1⟩:=Yi.out g L[s] (by rw[kL.out];simp_all);have q1s:Hid (T++Jh p (oN O) (L.take (s+1))=T2++(if fB p L[s]=true then [oN O L[s].toNat]else [])):=zH (by rw[q3b hsl,<-XT,HT2.out]);generalize L[s]=tt at*
     obtain⟨t,rfl⟩:=Xj t0;have htn:t<n:=by omega
     have kA:=zH htn;obtain⟨b,hb⟩:∃z,fB p (t:Int)=z:=⟨_,rfl⟩
     have HB:=zH hb;have xR:Hid (zw _ _ (some ar) (qe p)):=zH ((HR.out.below HX.out).more HX.out.size);have hsz:=HX.out.size;clear t0 t1 hb nL;cases b
     ·have HY:Hid (T++Jh p (oN O) (L.take (s+1))=T2):=zH (by rw[q1s.out,HB.out];simp);go_wp2_with(go_at_call 118;(with_reducible refine(Sl xR HS vR (by omega) HB).mono ?_);rintro e w5 ⟨i5,rfl,hb⟩;have qc:=zH (HX.out.trans (hb.mono hsz));have qM:=kpO HW hb;clear hb)
      go_roundw;case rel=>exact⟨s+1,T2,by omega,by go_num,HY,qM,qc⟩
      case measure=>simp[intOf];omega
     ·have HY:Hid (T++Jh p (oN O) (L.take (s+1))=T2++[oN O t]):=zH (by rw[q1s.out,HB.out];simp);obtain⟨ov,hov⟩:∃z,oN O t=z:=⟨_,rfl⟩
      have VX:=zH hov;rw[hov]at HY;clear hov;go_wp2_with(first
       |(go_at_call 118;(with_reducible refine(Sl xR HS vR (by omega) HB).mono ?_);rintro e w5 ⟨i5,rfl,hb⟩;have qc:=zH (HX.out.trans (hb.mono hsz));have qM:=kpO HW hb;have hsz5:=qc.out.size;have o1:=(HO.out.keep qc.out).at_ (t:=t) (by rw[Vt.out];exact kA.out);rw[VX.out]at o1;clear hb)
       |(at_builtin;refine Zv rfl _ _ 27 rfl _ 3 i1 (.int .i64 0) 1 8 Tryz.underlying27 hi1 hz01 hz11 hz21 rfl (by decide) _ T2.length (T2.map (Value.int .i64)) rfl (qM.out.alloc _) (some ⟨w5.heap.size,0,none⟩) 1 1 _ [.int .i64 ov] rfl rfl (gZ w5 _ _) (bL rfl) (by unfold maxLen;omega) (by omega) (by simp;omega) ?_;intro v6 w6 hown hgrow;have dW:=zH hown;have HX6:=zH (jx (qc.out.alloc hsz5 _) (qM.out.alloc _) (by simp;omega) hgrow);clear hown hgrow))
      go_roundw;case rel=>exact⟨s+1,T2++[ov],by omega,by go_num,HY,zH (by simpa using dW.out),HX6⟩
      case measure=>simp[intOf];omega
    ·have HY:Hid (ZN EL p (oN O) (p.take (k+1))=T2):=zH (by rw[HTK.out,<-HT2.out,XA (by omega)]);go_wp2_with fail
     go_roundw;case rel=>exact⟨k+1,T2,by omega,by go_num,HY,HW,HX⟩
     case measure=>simp[intOf];omega
  ·obtain⟨A7,c7,rfl,hll,hc1,hc2⟩:=Ji HW.out;have kD:=zH hll;have YK:Hid (ZN EL p (oN O) p=T):=zH (by rw[<-HT.out,XA (by rw[vR.out];omega)]);clear hll;by_cases h0:T.length=0
   ·have HZ:Hid (r=0):=zH (by rw[<-HRR.out,YK.out,List.length_eq_zero_iff.mp h0];rfl);go_wp2_with fail
    go_ret;exact⟨by rw[HZ.out];first|rfl|done,HX.out⟩
   ·have Ih:0<T.length:=by omega
    have h0i:((T.length:Int)==0)=false:=by simpa using h0
    have Mt:Hid (Jr T T.length=r):=zH (by
     rw[V4 Ih,<-HRR.out,YK.out];intro x hx;rw[<-YK.out]at hx;unfold ZN Jh at hx;obtain⟨g,_,hx⟩:=List.mem_flatMap.mp hx;obtain⟨t,_,rfl⟩:=X9.mp hx;exact wZ.out _)
    have N7:Hid (T.length=T.length):=zH rfl;go_wp2_with(go_at_call 64;(with_reducible refine(Y4 kD N7 Ih (by omega) Mt).mono ?_);rintro e w8 ⟨rfl,rfl⟩)
    go_ret;exact⟨rfl,HX.out⟩
theorem q9e{EL:List (List Int)}{n np gB:Nat}{O:List Int}{p:List Nat}{E R:Option Addr}{ce cr:Nat}{w:World}{r:Int}(HE:Hid (zd (zM zu 1) 1 w w.heap.size E ce EL))(HN:Hid (EL.length=n))(fO:n<=12)(Yi:Hid (Jl EL n/\∀g:Nat,(EL[g]?.getD []).length<=12))
  (HR:Hid (zw w w.heap.size R (qe p))) (HP:Hid ((∀g ∈p,g<n)/\p.length<=12)) (HS:Hid (p.Pairwise (· < ·))) (vR:Hid (p.length=np)) (HO:Hid (qk w gB O)) (Vt:Hid (O.length=n/\∀t,0<=oN O t)) (HRR:Hid ((ZN EL p (oN O) p).foldl mx 0=r)):
  Calls Tryz.prog 63 #[.slice E n ce,.slice R np cr,.slice (some ⟨gB,0,none⟩) n n] w fun e w'=>e= .returned (.int .i64 r)/\Below w.heap.size w w':=by
 obtain rfl:=vR.out;have H:=q5j EL n gB O p E R ce cr w HE.out HN.out fO Yi.out.1 Yi.out.2 HR.out HP.out.1 HS.out HP.out.2 HO.out Vt.out.1 Vt.out.2;rw[HRR.out]at H;exact H
def iD(T L:List Int):List Int:=L.map (fun f=>oN T f.toNat)
theorem q9z{T L:List Int}{k:Nat}(h:k<L.length):iD T (L.take (k+1))=iD T (L.take k)++[oN T L[k].toNat]:=by
 unfold iD;rw[Xx,Xc h,Wc];rfl
theorem SC(T L:List Int):(iD T L).foldl mx 0=Jg T L:=by
 unfold iD Jg;rw[List.foldl_map];rfl
theorem qew{T L:List Int}(h:∀t,0<=oN T t):∀x ∈iD T L,0<=x:=fun x hx=>by
 obtain⟨f,_,rfl⟩:=X9.mp hx;exact h _
set_option maxHeartbeats 1600000 in
theorem qez(T L:List Int)(A B:Option Addr)(c cb n:Nat)(w:World)(hT:zd zu 1 w w.heap.size A c T)(hn:T.length=n)(hn2:n<=1000)(hL:zd zu 1 w w.heap.size B cb L)(hl:L.length<=1000)(hin:∀f ∈L,0<=f/\f<n)(h0:∀t,0<=oN T t):
  Calls Tryz.prog 38 #[.slice A n c,.slice B L.length cb] w fun e w'=>e= .returned (.int .i64 (Jg T L))/\Below w.heap.size w w':=by
 obtain⟨i1,hi1,hz01,hz11,hz21⟩:=jJ ZL;have htl:=hT.le;have hll:=hL.le;rw[hn]at htl;have HT:=zH hT.row;have HN:=zH hn;have HL:=zH hL.row;have iR:=zH hin;have wZ:=zH h0;obtain⟨r,hr⟩:=zj (Jg T L);have HR:=zH hr;rw[hr];obtain⟨nl,hnl⟩:∃z,L.length=z:=⟨_,rfl⟩
 have Vo:=zH hnl;rw[hnl]at hl hll⊢
 clear hT hL hin h0 hn hr hnl;have HX0:=qP w;go_enter Tryz.func38,Tryz.ntmps38;go_wp2_with fail
 go_loopw [5,10] (fun v i wr=>∃(k:Nat) (U:List Int),k<=nl/\i= .int .i64 k/\Hid (iD T (L.take k)=U)/\U.length=k/\Hid (wr.ownsRow w.heap.size 3 1 v U.length (U.map (Value.int .i64)))/\Hid (Below w.heap.size w wr)) (fun _ i _=>nl - (intOf i).toNat)
 case atStart=>exact⟨0,[],Xn _,rfl,zH rfl,rfl,zH (XM _ _ _ _),HX0⟩
 case round=>
  clear HX0;obtain⟨k,U,hk,rfl,HU,iZ,HW,HX⟩:=hrel;by_cases hlt:k<nl
  ·have hkl:k<L.length:=by rw[Vo.out];exact hlt
   obtain⟨f,hf⟩:=zj (L[k]);obtain⟨f0,f1⟩:=iR.out f (by grind);obtain⟨fn,rfl⟩:=Xj f0;have hfn:fn<T.length:=by rw[HN.out];omega
   obtain⟨zZ,rfl,nL,l0⟩:=HL.out.at_ hkl;rw[Xq,hf]at l0;have l0:=(HX.out.cell (p:=zZ.add k) (by grind [zC])).trans (show w.cell? (zZ.add k)=some (.int .i64 (fn:Int))from l0);obtain⟨adT,rfl,qkt,t0⟩:=HT.out.at_ hfn;obtain⟨tv,Oo⟩:∃z,oN T fn=z:=⟨_,rfl⟩
   rw[Xq,<-VG hfn,Oo]at t0;have t0:=(HX.out.cell (p:=adT.add fn) (by grind [zC])).trans (show w.cell? (adT.add fn)=some (.int .i64 tv)from t0);have HY:Hid (iD T (L.take (k+1))=U++[tv]):=zH (by rw[q9z hkl,HU.out,hf,Xo,Oo]);clear hf Oo hfn nL qkt hkl;have hsz:=HX.out.size;go_wp2_with(at_builtin;refine Zv rfl _ _ 27 rfl _ 3 i1 (.int .i64 0) 1 8 Tryz.underlying27 hi1 hz01 hz11 hz21 rfl (by decide) _ U.length (U.map (Value.int .i64)) rfl (HW.out.alloc _) (some ⟨wr.heap.size,0,none⟩) 1 1 _ [.int .i64 tv] rfl rfl (gZ wr _ _) (bL rfl) (by unfold maxLen;omega) (by omega) (by simp;omega) ?_;intro v6 w6 hown hgrow;have dW:=zH hown;have HX6:=zH (jx (HX.out.alloc hsz _) (HW.out.alloc _) (by simp;omega) hgrow);clear hown hgrow)
   go_roundw;case rel=>exact⟨k+1,U++[tv],by omega,by go_num,HY,by simp[iZ],(by grind),HX6⟩
   case measure=>simp[intOf];omega
  ·obtain rfl:k=nl:=by omega
   obtain⟨A7,c7,rfl,q24,hc1,hc2⟩:=Ji HW.out;have kD:=zH q24;have YK:Hid (iD T L=U):=zH (by rw[<-HU.out,XA (by rw[Vo.out];omega)]);clear q24;rw[iZ]at hc1⊢
   by_cases h0:k=0
   ·have HZ:Hid (r=0):=zH (by rw[<-HR.out,<-SC,YK.out,List.length_eq_zero_iff.mp (iZ.trans h0)];rfl);go_wp2_with fail
    go_ret;exact⟨by rw[HZ.out];simp_all,HX.out⟩
   ·have Ih:0<k:=by omega
    have h0i:((k:Int)==0)=false:=by grind
    have Mt:Hid (Jr U U.length=r):=zH (by
     rw[V4 (by omega) (by rw[<-YK.out];exact qew wZ.out),<-YK.out,SC,HR.out])
    have N7:Hid (U.length=k):=zH iZ;go_wp2_with(go_at_call 64;(with_reducible refine(Y4 kD N7 Ih (by omega) Mt).mono ?_);rintro e w8 ⟨rfl,rfl⟩)
    go_ret;exact⟨rfl,HX.out⟩
def JZ(m:za):List Int:=m.methods.map (·.pot)
theorem U0(m:za):(JZ m).length=m.methods.length:=by unfold JZ;grind
theorem Y9(m:za)(k:Nat):oN (JZ m) k=(zA m (k:Int)).pot:=by
 unfold oN JZ zA
 grind
theorem qc4(m:za)(L:List Int)(h:∀f ∈L,0<=f):Jg (JZ m) L=jp m L:=by
 have H:∀(L:List Int) (s:Int),(∀f ∈L,0<=f)->L.foldl (pO (JZ m)) s=L.foldl (ko m) s:=by
  intro L
  induction L with
  |nil=>grind
  |cons f L ih=>
   intro s hq;obtain⟨n,rfl⟩:=Xj (hq f (XV ..));rw[List.foldl_cons,List.foldl_cons,ih _ (fun g hg=>hq g (XY _ hg))];congr 1;unfold pO ko;rw[Xo,Y9]
 exact H L 0 h
theorem qgc{m:za}(hm:zP m)(t:Nat):0<=oN (JZ m) t:=by
 rw[Y9];unfold zA;rw[Xo];rcases Xl t m.methods.length with q|q
 ·rw[Xc q];exact(hm.method (Xd q)).fits.p0
 grind
set_option maxHeartbeats 1600000 in
theorem qex(m:za)(h:zh)(n:Nat)(w:World)(H:zr w w.heap.size h m)(hn:m.methods.length=n)(fO:n<=12):
  Calls Tryz.prog 39 #[zv h m] w fun e w'=>∃g,e= .returned (.slice (some ⟨g,0,none⟩) n n)/\zd zu 1 w' w'.heap.size (some ⟨g,0,none⟩) n (JZ m)/\Below w.heap.size w w':=by
 obtain⟨i1,hi1,hy0,hy1,hy2⟩:=jJ ZL;have HW:=zH (vU (w:=w) (h:=h) (m:=m));have HBX:=zH (qd w h m);have HZ:Hid (w.heap.size<(w.alloc (ze h m)).heap.size):=zH (by simp);have HI:=zH (H.now HW.out);have hle:=H.methods.le;have hcap:=H.methods.cap;have HN:=zH hn;rw[hn]at hle;clear H hn;obtain⟨A0,Ab,A2,A3,A4,k0,k1,k2,k3,k4⟩:=h;dsimp only at hle hcap;go_enter Tryz.func39,Tryz.ntmps39;go_upto_region 1 with fail
 generalize w.alloc (ze ⟨A0,Ab,A2,A3,A4,k0,k1,k2,k3,k4⟩ m)=w1 at*
 obtain⟨q0,q1,q2,q3,q4,q5,q6⟩:=HBX.out;dsimp only at q0 q1 q2 q3 q4 q5 q6;rw[HN.out]at q3;go_upto_region 2 with(at_make;refine wpList_make_full _ rfl _ _ 27 rfl w1.heap.size 3 i1 (.int .i64 0) 1 Tryz.underlying27 hi1 hy0 hy1 .i64 .i64 _ _ n rfl rfl rfl rfl (by grind) (by unfold maxLen;omega) (zn _) ?_;intro w3 hown hgrow;have qa:=zH hown;have HB3:=zH ((zb w1.heap.size w1).grown hgrow (zn _) (by grind));clear hown hgrow)
 have aS:Hid (qk w3 w1.heap.size (List.replicate n 0)):=zH (by
  have h1:=o5 qa.out;rw[mi (v:= .int .i64 0) rfl]at h1;unfold qk;simp_all)
 obtain⟨gB,hgB⟩:∃z,w1.heap.size=z:=⟨_,rfl⟩
 have qR:Hid (w1.heap.size<=gB):=zH (by omega);have uB:Hid ((List.replicate n (0:Int)).length=n):=zH (by simp);rw[hgB]at aS;clear qa q0 q1 q2 q3 q4 q5 q6;try simp only[hgB]
 clear hgB;generalize(List.replicate n (0:Int))=O0 at*
 obtain⟨q0,q1,q2,q3,q4,q5,q6⟩:=HBX.out.keep HB3.out HZ.out;dsimp only at q0 q1 q2 q3 q4 q5 q6;rw[HN.out]at q3;go_wp2_with fail
 clear q0 q1 q2 q3 q4 q5 q6;go_loopw [13] (fun i wr=>∃(k:Nat) (O:List Int),k<=n/\i= .int .i64 k/\Hid (O.length=n)/\Hid (∀t,t<k->oN O t=oN (JZ m) t)/\Hid (qk wr gB O)/\Hid (Below w1.heap.size w1 wr)) (fun i _=>n - (intOf i).toNat)
 case atStart=>exact⟨0,O0,Xn _,rfl,uB,zH (by omega),aS,HB3⟩
 case round=>
  clear aS HB3 uB;obtain⟨k,O,hk,rfl,Vt,HE,HO,HX⟩:=hrel;by_cases hlt:k<n
  ·have Ym:k<m.methods.length:=by rw[HN.out];exact hlt
   obtain⟨ad,qE,eA,hab,hin,hcm⟩:=Zx HI.out Ym;dsimp only at eA;subst eA;have hpk:oN (JZ m) k=m.methods[k].pot:=by unfold oN JZ;grind
   generalize m.methods[k]=x at*
   obtain⟨b0,b1,b2,b3,b4,b5,b6,b7⟩:=hcm.keep HX.out (by grind [zC]);obtain⟨xA0,xA1,Yb,JA,Zm,Zo,vP,vF⟩:=qE;dsimp only at b0 b1 b4 b7;obtain⟨pv,hpv⟩:∃z,x.pot=z:=⟨_,rfl⟩
   rw[hpv]at hpk b6;have sS:=zH hpk;have hkO:k<O.length:=by rw[Vt.out];exact hlt
   have xq:Below wr.heap.size wr (wr.alloc (.cells #[.slice xA0 x.args.length Zm,.slice xA1 x.locals.length Zo,.int .i64 x.ret.1,.int .i64 x.ret.2,.slice Yb x.code.length vP,.int .i64 x.depth,.int .i64 pv,.slice JA x.phi.length vF] 48)):=zk;have zp:=zi HX xq;have qa:=zH (HO.out.keep xq);have HXB:Hid (zm (wr.alloc (.cells #[.slice xA0 x.args.length Zm,.slice xA1 x.locals.length Zo,.int .i64 x.ret.1,.int .i64 x.ret.2,.slice Yb x.code.length vP,.int .i64 x.depth,.int .i64 pv,.slice JA x.phi.length vF] 48)) wr.heap.size [.slice xA0 x.args.length Zm,.slice xA1 x.locals.length Zo,.int .i64 x.ret.1,.int .i64 x.ret.2,.slice Yb x.code.length vP,.int .i64 x.depth,.int .i64 pv,.slice JA x.phi.length vF] 48):=zH (zm.new wr _ _);have hki:(k:Int)<(n:Int):=by omega
   clear hpk hpv hin hcm hab xq;go_upto_region 5 with fail
   clear b0 b1 b2 b3 b4 b5 b6 b7;obtain⟨N,hN⟩:∃z,wr.heap.size=z:=⟨_,rfl⟩
   simp only[hN]at HXB⊢
   generalize wr.alloc (.cells #[.slice xA0 x.args.length Zm,.slice xA1 x.locals.length Zo,.int .i64 x.ret.1,.int .i64 x.ret.2,.slice Yb x.code.length vP,.int .i64 x.depth,.int .i64 pv,.slice JA x.phi.length vF] 48)=w4 at*
   have c6:=(zm.cells HXB.out) 6 _ rfl;have o1:=qa.out.at_ hkO;have of:=zm.free qa.out k;go_wp2_with fail
   go_roundw;case rel=>exact⟨k+1,O.set k pv,by omega,by go_num,(by grind),zH (fun t ht=>by
     rw[mM hkO];by_cases q:t=k
     ·rw[Xb q,q,sS.out]
     ·rw[Xa q];exact HE.out t (by omega)),zH (qa.out.set pv),zH (zp.out.setCell qR.out _)⟩
   case measure=>simp[intOf];omega
  ·obtain rfl:k=n:=by omega
   have gF:Hid (O=JZ m):=zH (Wh (by rw[Vt.out,U0,HN.out]) fun i h1 h2=>by
    have:=HE.out i (by rw[<-Vt.out];exact h1)
    grind [VG])
   go_wp2_with fail
   go_ret;exact⟨gB,rfl,by rw[<-gF.out];exact HO.out.slc Vt.out (by omega),HW.out.trans (HX.out.mono (Xg HZ.out))⟩
def jE(m:za)(x:zl)(op a b:Int):List (Int×Int):=
 if op=4 then [vB x a]else if op=5\/op=6 then [(6,0)]else if op=19\/op=23 then [(1,0)]else if op=20 then [(7,0)]else if op=21 then [(7,0),(7,0)]else
 if op=24 then [(2,0),(1,0)]else if op=25 then [(2,0),(1,0),(1,0)]else if op=26 then [(2,0)]else if op=27 then [(3,a)]else if op=28 then [(3,a),bZ m a b]else
 if op=30 then [gX m a]else if op=31 then(zA m a).args else if op=32 then(3,a)::(zA m (Yz m a b)).args.drop 1 else if op=33 then vb x else if op=34 then [(8,0)]else
 if 7<=op/\op<=17 then [(1,0),(1,0)]else []
def Qn(m:za)(x:zl)(op a b:Int)(tk:List (Int×Int)):List (Int×Int):=if op=6 then tk++tk else jg m x op a b
abbrev Bg(h:zh)(m:za)(op a b:Int)(w:World):World:=(iH h m op a b w).alloc (.cells #[.int .i64 op,.int .i64 a,.int .i64 b] 50)
structure rz(w2:World)(N:Nat)(h:zh)(m:za)(op a b:Int):Prop where
 img:YW w2 N h m
 ins:zQ w2 (N+1) [.int .i64 op,.int .i64 a,.int .i64 b]
 fn:zQ w2 (N+1+1) [.int .i64 op,.int .i64 a,.int .i64 b]
 size:w2.heap.size=N+1+1+1
theorem Rn(h:zh)(m:za)(op a b:Int)(w:World):Below w.heap.size w (Bg h m op a b w)/\rz (Bg h m op a b w) w.heap.size h m op a b:=by
 obtain⟨h0,h1⟩:=Kk h m op a b w;obtain⟨c1,z1,b1⟩:=Jf h1.size [.int .i64 op,.int .i64 a,.int .i64 b] 50;exact⟨h0.trans (b1.mono (by omega)),h1.img.keep b1 (by omega),h1.ins.keep b1 (by omega),c1,z1⟩
theorem rz.fnlt{w2:World}{N:Nat}{h:zh}{m:za}{op a b:Int}(H:rz w2 N h m op a b):N+1+1<w2.heap.size:=by have:=H.size;omega
theorem V6{h:zh}{m:za}{op a b:Int}{w:World}:Calls Tryz.prog 167 #[qt op a b] (iH h m op a b w) fun e w'=>e= .returned (mkF (w.heap.size+1+1))/\w'=Bg h m op a b w:=by
 refine(q8n op a b _).mono ?_;simp_all
theorem qd3{w:World}{g:Nat}{p q r:Int}(hg:g<w.heap.size)(h0:w.cell? ⟨g,0,none⟩=some (.int .i64 p))(h1:w.cell? ⟨g,1,none⟩=some (.int .i64 q))(h2:w.cell? ⟨g,2,none⟩=some (.int .i64 r)):zd zu 1 w w.heap.size (some ⟨g,0,none⟩) 3 [p,q,r]:=
 ⟨zn _,by omega,fun i t hi=>by
  match i,hi with
  |0,hi=>simp at hi;subst hi;exact⟨_,rfl,hg,h0⟩
  |1,hi=>simp at hi;subst hi;exact⟨_,rfl,hg,(show w.cell? _=_ by simpa[Addr.add]using h1)⟩
  |2,hi=>simp at hi;subst hi;exact⟨_,rfl,hg,(show w.cell? _=_ by simpa[Addr.add]using h2)⟩
  |i+3,hi=>simp at hi⟩
def bP(w0:World)(L:List (Int×Int))(e:Ending)(w':World):Prop:=∃v,e= .returned v/\w'.ownsRow w0.heap.size 45 2 v L.length (zN L)/\Below w0.heap.size w0 w'
theorem bP.some_{w w0:World}{L:List (Int×Int)}{e:Ending}{w':World}(h:bP w0 L e w')(hb:Below w.heap.size w w0):Ys L w e w':=by
 obtain⟨v,rfl,ho,hx⟩:=h;obtain⟨A,c,rfl,hs,_⟩:=Yq ho;exact⟨A,c,rfl,hs,hb.trans (hx.mono hb.size)⟩
theorem q07{k0 op a b:Int}{N:Nat}{w0 w:World}{L:List (Int×Int)}(HL:Hid (ZY a [k0]=L))(HN:Hid (N<w0.heap.size))(HC:Hid (zQ w0 N [.int .i64 op,.int .i64 a,.int .i64 b]))(HX:Hid (Below w0.heap.size w0 w)):
  Calls Tryz.prog 190 #[.slice (some ⟨w.heap.size,0,none⟩) 1 1,.pointer (some ⟨N,0,none⟩)] (w.alloc (.cells #[.int .i64 k0] 3)) (bP w0 L):=by
 have hA:=HX.out.alloc HX.out.size (.cells #[.int .i64 k0] 3);refine(Fe (ks:=[k0]) HL (Xp HN.out hA.size) (HC.out.keep hA HN.out) (EP (by simp) (by go_simp)) (by simp)).mono ?_;rintro e w' ⟨v,rfl,ho,hb⟩;exact⟨v,rfl,js ho hA.size,hA.trans (hb.mono hA.size)⟩
theorem qk2{k0 k1 op a b:Int}{N:Nat}{w0 w:World}{L:List (Int×Int)}(HL:Hid (ZY a [k0,k1]=L))(HN:Hid (N<w0.heap.size))(HC:Hid (zQ w0 N [.int .i64 op,.int .i64 a,.int .i64 b]))(HX:Hid (Below w0.heap.size w0 w)):
  Calls Tryz.prog 190 #[.slice (some ⟨w.heap.size,0,none⟩) 2 2,.pointer (some ⟨N,0,none⟩)] (w.alloc (.cells #[.int .i64 k0,.int .i64 k1] 3)) (bP w0 L):=by
 have hA:=HX.out.alloc HX.out.size (.cells #[.int .i64 k0,.int .i64 k1] 3);refine(Fe (ks:=[k0,k1]) HL (Xp HN.out hA.size) (HC.out.keep hA HN.out) (q05 (by simp) (by go_simp) (by go_simp)) (by simp)).mono ?_;rintro e w' ⟨v,rfl,ho,hb⟩;exact⟨v,rfl,js ho hA.size,hA.trans (hb.mono hA.size)⟩
theorem qk1{k0 k1 k2 op a b:Int}{N:Nat}{w0 w:World}{L:List (Int×Int)}(HL:Hid (ZY a [k0,k1,k2]=L))(HN:Hid (N<w0.heap.size))(HC:Hid (zQ w0 N [.int .i64 op,.int .i64 a,.int .i64 b]))(HX:Hid (Below w0.heap.size w0 w)):
  Calls Tryz.prog 190 #[.slice (some ⟨w.heap.size,0,none⟩) 3 3,.pointer (some ⟨N,0,none⟩)] (w.alloc (.cells #[.int .i64 k0,.int .i64 k1,.int .i64 k2] 3)) (bP w0 L):=by
 have hA:=HX.out.alloc HX.out.size (.cells #[.int .i64 k0,.int .i64 k1,.int .i64 k2] 3);refine(Fe (ks:=[k0,k1,k2]) HL (Xp HN.out hA.size) (HC.out.keep hA HN.out) (qd3 (by simp) (by go_simp) (by go_simp) (by go_simp)) (by simp)).mono ?_;rintro e w' ⟨v,rfl,ho,hb⟩;exact⟨v,rfl,js ho hA.size,hA.trans (hb.mono hA.size)⟩
theorem WA{k op a b:Int}{N:Nat}{w0:World}{L:List (Int×Int)}(HL:Hid (ZY a [k]=L))(HN:Hid (N<w0.heap.size))(HC:Hid (zQ w0 N [.int .i64 op,.int .i64 a,.int .i64 b])):
  Calls Tryz.prog 190 #[.slice (some ⟨w0.heap.size,0,none⟩) 1 1,.pointer (some ⟨N,0,none⟩)] (w0.alloc (.cells #[.int .i64 k] 3)).drew (bP w0 L):=by
 have hA:=(zk (w:=w0) (o:=(.cells #[.int .i64 k] 3))).drew;refine(Fe (ks:=[k]) HL (Xp HN.out hA.size) (HC.out.keep hA HN.out) (EP (by simp) (by go_simp)) (by simp)).mono ?_;rintro e w' ⟨v,rfl,ho,hb⟩;exact⟨v,rfl,js ho hA.size,hA.trans (hb.mono hA.size)⟩
def Lp(op:Int)(u v:Int×Int):Prop:=(u.1=6/\v.1=0)\/(u.1=7/\v.1=4/\¬op=34)\/(u.1=8/\v.1=4/\op=34)\/(u=v/\(u.1=1\/u.1=2\/u.1=3))
def WR(op:Int):List (Int×Int)->List (Int×Int)->Prop
 | [],[]=>True
 |u::W,v::T=>Lp op u v/\WR op W T
 |_,_=>False
theorem qho{sup:List Int}{op:Int}{t u v:Int×Int}(h:Lp op u v):kZ sup t u=vM sup op t v:=by
 unfold kZ vM;rcases h with⟨h1,h2⟩|⟨h1,h2,h3⟩|⟨h1,h2,h3⟩|⟨rfl,h2⟩
 all_goals grind
theorem LP{op:Int}:∀{W T:List (Int×Int)},WR op W T->W.length=T.length
 | [],[],_=>rfl
 |_::W,_::T,h=>by rw[XI,XI,LP h.2]
 | [],_::_,h=>h.elim
 |_::_,[],h=>h.elim
theorem q0h{sup:List Int}{op:Int}:∀{W T:List (Int×Int)} (L:List (Int×Int)),WR op W T->(L.zip W).all (fun p=>kZ sup p.1 p.2)=(L.zip T).all (fun p=>vM sup op p.1 p.2)
 | [],[],L,_=>by simp
 |u::W,v::T,[],h=>by simp
 |u::W,v::T,t::L,h=>by
  rw[List.zip_cons_cons,List.zip_cons_cons,List.all_cons,List.all_cons,q0h L h.2];show(kZ sup t u&& _)=(vM sup op t v&& _)
  rw[qho h.1]
 | [],_::_,_,h=>h.elim
 |_::_,[],_,h=>h.elim
theorem Ud{k n c:Int}(h:jl k n c=true):k=1\/k=2\/k=3:=by
 unfold jl at h
 grind
theorem Lm{op:Int}{c:Int}:∀{L:List (Int×Int)},(∀t ∈L,jl t.1 t.2 c=true)->WR op L L
 | [],_=>Xs
 |t::L,h=>⟨.inr (.inr (.inr ⟨rfl,Ud (h t (XV ..))⟩)),Lm fun u hu=>h u (XY _ hu)⟩
theorem AZ{op:Int}{c:Int}{t:Int×Int}(h:jl t.1 t.2 c=true):WR op [t] [t]:=⟨.inr (.inr (.inr ⟨rfl,Ud h⟩)),Xs⟩
theorem SH{m:za}{x:zl}{f:Nat}{op a b:Int}(hm:zP m)(hg:m.methods[f]? =some x)(hi:qs op a b=true)(hn:zK m x op a b=true)(h6:¬op=6):WR op (jE m x op a b) (jq m x op a b):=by
 obtain⟨o0,o1,a0,a1,b0,b1⟩:=YN hi;have hx:=hm.method (Xr hg);have hc:op=1\/op=2\/op=3\/op=4\/op=5\/op=7\/op=8\/op=9\/op=10\/op=11\/op=12\/op=13\/op=14\/op=15\/op=16\/op=17\/op=18\/op=19\/op=20\/op=21\/op=22\/op=23\/op=24\/op=25\/op=26\/op=27\/op=28\/op=29\/op=30\/op=31\/op=32\/op=33\/op=34:=by omega
 rcases hc with rfl|rfl|rfl|rfl|rfl|rfl|rfl|rfl|rfl|rfl|rfl|rfl|rfl|rfl|rfl|rfl|rfl|rfl|rfl|rfl|rfl|rfl|rfl|rfl|rfl|rfl|rfl|rfl|rfl|rfl|rfl|rfl|rfl;all_goals first|(simp[jE,jq,WR,Lp];done)|skip
 ·have e1:jE m x 4 a b=[vB x a]:=by simp[jE]
  have e2:jq m x 4 a b=[vB x a]:=by simp[jq]
  rw[e1,e2];have hl:=KE (op:=4) (.inr rfl) hn;have hmem:=ic (l:=x.args++x.locals) a0 (by rw[Xh];omega);have hlo:vB x a=(x.args++x.locals)[a.toNat]?.getD (0,0):=by unfold vB;grind
  rw[hlo];rcases Xu.mp hmem with q|q
  ·exact AZ (hx.at_ _ q)
  ·exact AZ (hx.lt _ q)
 ·have e1:jE m x 28 a b=[(3,a),bZ m a b]:=by simp[jE]
  have e2:jq m x 28 a b=[(3,a),bZ m a b]:=by simp[jq]
  rw[e1,e2];exact⟨.inr (.inr (.inr ⟨rfl,.inr (.inr rfl)⟩)),AZ (IM hm (ic b0 (oZ (op:=28) (.inr rfl) hn).2))⟩
 ·have e1:jE m x 30 a b=[gX m a]:=by simp[jE]
  have e2:jq m x 30 a b=[gX m a]:=by simp[jq]
  rw[e1,e2];exact AZ (hm.st _ (ic a0 (uH (op:=30) (.inr rfl) hn)))
 ·have e1:jE m x 31 a b=(zA m a).args:=by simp[jE]
  have e2:jq m x 31 a b=(zA m a).args:=by simp[jq]
  rw[e1,e2];have h1:=o8 hn;have h2:a.toNat<m.methods.length:=by omega
  have h3:zA m a ∈m.methods:=by unfold zA;grind
  exact Lm (hm.method h3).at_
 ·have e1:jE m x 32 a b=(3,a)::(zA m (Yz m a b)).args.drop 1:=by simp[jE]
  have e2:jq m x 32 a b=(3,a)::(zA m (Yz m a b)).args.drop 1:=by simp[jq]
  rw[e1,e2];obtain⟨_,k,y,hk,hy,_⟩:=o7 hm a0 b0 hn;have h3:zA m (Yz m a b)=y:=by unfold zA Yz;grind
  rw[h3];exact⟨.inr (.inr (.inr ⟨rfl,.inr (.inr rfl)⟩)),Lm fun t ht=>(hm.method (by grind)).at_ t (List.mem_of_mem_drop ht)⟩
 ·have e1:jE m x 33 a b=vb x:=by simp[jE]
  have e2:jq m x 33 a b=vb x:=by simp[jq]
  rw[e1,e2];unfold vb;by_cases h5:x.ret.1=5
  ·rw[Xb h5];Xs
  ·rw[Xa h5];rcases hx.rt with h|h;all_goals grind [AZ]
def DW(sup:List Int)(W gv:List (Int×Int))(nl:List Int)(st:List (Int×Int)):df:=
 if eX sup (st.drop (st.length - W.length)) W=true then(if 8<(st.take (st.length - W.length)++gv).length then qS 4 else⟨st.take (st.length - W.length)++gv,nl,0⟩)else qS 4
theorem Ro{sup:List Int}{op:Int}{W TK GV:List (Int×Int)}{nl:List Int}{st:List (Int×Int)}(h:WR op W TK):DW sup W GV nl st=ZK sup op TK GV nl st:=by
 have hl:=LP h;unfold DW ZK eX;rw[hl,q0h _ h]
 grind
theorem WG{m:za}{x:zl}{pc op a b:Int}(hn:zK m x op a b=true):VL x.code.length (jt pc op a)=(jt pc op a).head?.any (fun n=>decide ((x.code.length:Int)<=n)):=by
 unfold jt VL;by_cases h18:op=18
 ·grind
 ·rw[Xa h18];by_cases h19:op=19
  ·rw[Xb h19]
   grind [RV]
  grind
theorem qfr{m:za}{x:zl}{pc op a b:Int}{st:List (Int×Int)}(hn:zK m x op a b=true)(h:VL x.code.length (jt pc op a)=true):qT m x pc op a b st=qS 4:=by
 unfold qT;rw[Xb (by grind [WG])]
theorem qe1{st:List (Int×Int)}(h:st≠ []):st.drop (st.length - 1)=[st.getLast?.getD (0,0)]:=by
 have h0:0<st.length:=(by grind)
 grind [Wq,List.drop_of_length_le,Xc]
theorem qay{m:za}{x:zl}{f:Nat}{pc op a b:Int}{st:List (Int×Int)}(hm:zP m)(hg:m.methods[f]? =some x)(hi:qs op a b=true)(hn:zK m x op a b=true)(h:VL x.code.length (jt pc op a)=false):
  qT m x pc op a b st=DW (zy m.classes) (jE m x op a b) (Qn m x op a b (st.drop (st.length - (jE m x op a b).length))) (jt pc op a) st:=by
 have hf:¬(jt pc op a).head?.any (fun n=>decide ((x.code.length:Int)<=n))=true:=by grind [WG]
 by_cases h6:op=6
 ·subst h6;have e1:jE m x 6 a b=[(6,0)]:=by simp[jE]
  rw[e1];by_cases hs:st=[]
  ·subst hs;rw[Km];rfl
  ·rw[y7 hf (fun q=>hs q.2)];have e2:takes m x 6 a b st=[(0,0)]:=by unfold takes;grind
   have e3:Jv m x 6 a b st=[st.getLast?.getD (0,0),st.getLast?.getD (0,0)]:=by unfold Jv;grind
   have e4:Qn m x 6 a b (st.drop (st.length - [((6:Int),(0:Int))].length))=[st.getLast?.getD (0,0),st.getLast?.getD (0,0)]:=by
    unfold Qn;rw[Xb rfl]
    grind [qe1]
   rw[e2,e3,e4];exact(Ro (show WR 6 [(6,0)] [(0,0)]from⟨.inl ⟨rfl,rfl⟩,Xs⟩)).symm
 ·rw[y7 hf (fun q=>h6 q.1)];have e2:takes m x op a b st=jq m x op a b:=by unfold takes;grind
  have e3:Jv m x op a b st=jg m x op a b:=by unfold Jv;grind
  have e4:∀tk,Qn m x op a b tk=jg m x op a b:=fun tk=>by unfold Qn;grind
  grind [Ro,SH]
theorem qai{m:za}{x:zl}{f:Nat}{op a b:Int}(hm:zP m)(hg:m.methods[f]? =some x)(hi:qs op a b=true)(hn:zK m x op a b=true):(jE m x op a b).length=if op=6 then 1 else(jq m x op a b).length:=by
 by_cases h6:op=6
 ·subst h6;rw[Xb rfl];simp[jE]
 ·rw[Xa h6]
  grind [LP,SH]
