import Derived.Test.YtnfeiginmngknaaGreatFZ33
namespace Go.Proofs.YtnfeiginmngknaaGreat
set_option maxRecDepth 100000
set_option linter.unusedVariables false
set_option linter.unusedSimpArgs false
open Go.ChangeShapes Go.WideShapes Go.ChangeAt Go.RowKit
def WY(m:za)(maps:List (List zq))(w:World)(e:Ending)(w':World):Prop:=∃A n c ok,e= .returned (.tuple #[.slice A n c,.bool ok])/\Below w.heap.size w w'/\ok=kQ m/\(ok=true->n=m.methods.length/\zd zu 1 w' w'.heap.size A c (vV m maps))
theorem PH{P:Prop}(h:P:=by
 have hT:bR m g=(1:Int):=by unfold bR;rw[VN];rw[Xa (by rw[hb3];decide)]
 have tJ:Hid (jT m maps g=(1:Int)*FR):=zH (by unfold jT;rw[hT,VZ.out]);have uq:0<=(1:Int)*FR:=by rw[<-tJ.out];exact p8 HM.out g
 have hP1:(1:Int)*FR<=32088:=by rw[<-tJ.out];exact wD HM.out vl.out g
 have HOW:Hid (kq EL n (jT m maps) f (g+1)=own+(1:Int)*FR):=zH (by
  show(if ka EL n f g=true then kq EL n (jT m maps) f g+jT m maps g else _)=_;rw[Xb ki.out,tJ.out,gF.out])
 clear hT;go_upto_region 26 with(go_at_call 95;(with_reducible refine(Tp HI HX HM uC vl Qc VZ).mono ?_);rintro e w9 ⟨rfl,hb⟩;have Mq:=zi HV hb;have QY:=zH (HB.out.keep hb);clear hb)
 have HV:=Mq;have HB:=QY;clear HX H5 HQ q0 q1 q2 q3 q4 q5 q6;have HX:=zH (zD tT HV);have H5:=zH (zD MW HV);have HQ:=zH (Yk.out.keep HV.out);obtain⟨q0,q1,q2,q3,q4,q5,q6⟩:=HBX.out.keep HX.out HZ.out;have er:=(H5.out.cell (p:=dI.add g) (by rw[zC];exact x9)).trans HRO.out;go_loopw [14,17] (fun bv i wr=>∃k:Nat,k<=L.length/\i= .int .i64 k/\bv= .int .i64 (jU EL n (oN O) g Ze (L.take k))/\wr=w9) (fun _ i _=>L.length - (intOf i).toNat)
 case atStart=>exact⟨0,Xn _,rfl,rfl,by first|rfl|Xs⟩
 case round=>
  obtain⟨k,hk,rfl,rfl,hwr⟩:=hrel;have hwr:=hwr.symm;subst hwr;obtain⟨bb,hbb⟩:∃z,jU EL n (oN O) g Ze (L.take k)=z:=⟨_,rfl⟩
  rw[hbb];by_cases hkl:k<L.length
  ·obtain⟨zZ,rfl,nL,l0⟩:=wW.out.row.at_ hkl;have l0:w5.cell? (zZ.add k)=some (.int .i64 L[k]):=by have:=l0;rw[Xq]at this;exact this
   have l0:=(H5.out.cell (p:=zZ.add k) (by rw[zC];exact nL)).trans l0;obtain⟨t0,t1⟩:=Yi.out g L[k] (by rw[kL.out];exact Xd hkl);have HTK:Hid (jU EL n (oN O) g Ze (L.take (k+1))=ZA EL n (oN O) g bb L[k]):=zH (by rw[Rc hkl,hbb]);generalize L[k]=tt at*
   obtain⟨t,rfl⟩:=Xj t0;have htn:t<n:=by omega
   obtain⟨gt,hgt⟩:∃z,G[t]? =some z:=⟨_,Xc (by rw[dV.out];exact htn)⟩
   have e1:=HQ.out.row_get hgt;have e2:=HQ.out.bit_get hgt fQ.out;have o1:=HB.out.at_ (t:=t) (by rw[QK.out.len];exact htn);have htop:=QK.out.top t;rw[lH.out t g htn fQ.out]at e2;obtain⟨b4,hb4⟩:∃z,jH EL n t g=z:=⟨_,rfl⟩
   rw[hb4]at e2;have jw:=zH hb4;clear hgt hb4;cases b4
   ·obtain⟨ov,hov⟩:∃z,oN O t=z:=⟨_,rfl⟩
    have VX:=zH hov;rw[hov]at o1 htop;clear hov;by_cases hgr:bb<ov
    ·have hgi:ov>bb:=hgr;have HY:Hid (jU EL n (oN O) g Ze (L.take (k+1))=ov):=zH (by rw[HTK.out];unfold ZA;rw[Xo,VX.out,Xb ⟨jw.out,hgr⟩]);go_wp2_with fail
     go_roundw;case rel=>exact⟨k+1,by omega,by go_num,by rw[HY.out],by first|rfl|Xs⟩
     case measure=>simp[intOf];omega
    ·have hgi:¬ov>bb:=hgr;have HY:Hid (jU EL n (oN O) g Ze (L.take (k+1))=bb):=zH (by rw[HTK.out];unfold ZA;rw[Xo,VX.out,Xa (fun z=>hgr z.2)]);go_wp2_with fail
     go_roundw;case rel=>exact⟨k+1,by omega,by go_num,by rw[HY.out],by first|rfl|Xs⟩
     case measure=>simp[intOf];omega
   ·have HY:Hid (jU EL n (oN O) g Ze (L.take (k+1))=bb):=zH (by rw[HTK.out];unfold ZA;rw[Xo,Xa (fun z=>by rw[jw.out]at z;cases z.1)]);go_wp2_with fail
    go_roundw;case rel=>exact⟨k+1,by omega,by go_num,by rw[HY.out],by first|rfl|Xs⟩
    case measure=>simp[intOf];omega
  ·have hki:¬(k:Int)<(L.length:Int):=by omega
   have aU:Hid (kt EL n (oN O) f (g+1)=bb):=zH (by
    show(if ka EL n f g=true then jU EL n (oN O) g (kt EL n (oN O) f g) (EL[g]?.getD [])else _)=_;rw[Xb ki.out,xY.out,kL.out,<-hbb,XA (by omega)])
   go_wp2_with fail
   go_roundw;case rel=>exact⟨g+1,own+(1:Int)*FR,bb,by omega,by go_num,by go_num,rfl,HOW,aU,HB,HV⟩
   case measure=>simp[intOf];omega):P:=h
theorem PE{P:Prop}(h:P:=by
 have hT:bR m g=x.depth:=by unfold bR;rw[VN];rw[Xb hb3]
 have tJ:Hid (jT m maps g=x.depth*FR):=zH (by unfold jT;rw[hT,VZ.out]);have uq:0<=x.depth*FR:=by rw[<-tJ.out];exact p8 HM.out g
 have hP1:x.depth*FR<=32088:=by rw[<-tJ.out];exact wD HM.out vl.out g
 have HOW:Hid (kq EL n (jT m maps) f (g+1)=own+x.depth*FR):=zH (by
  show(if ka EL n f g=true then kq EL n (jT m maps) f g+jT m maps g else _)=_;rw[Xb ki.out,tJ.out,gF.out])
 clear hT;go_upto_region 26 with(go_at_call 95;(with_reducible refine(Tp HI HX HM uC vl Qc VZ).mono ?_);rintro e w9 ⟨rfl,hb⟩;have Mq:=zi HV hb;have QY:=zH (HB.out.keep hb);clear hb)
 have HV:=Mq;have HB:=QY;clear HX H5 HQ q0 q1 q2 q3 q4 q5 q6;have HX:=zH (zD tT HV);have H5:=zH (zD MW HV);have HQ:=zH (Yk.out.keep HV.out);obtain⟨q0,q1,q2,q3,q4,q5,q6⟩:=HBX.out.keep HX.out HZ.out;have er:=(H5.out.cell (p:=dI.add g) (by rw[zC];exact x9)).trans HRO.out;go_loopw [14,17] (fun bv i wr=>∃k:Nat,k<=L.length/\i= .int .i64 k/\bv= .int .i64 (jU EL n (oN O) g Ze (L.take k))/\wr=w9) (fun _ i _=>L.length - (intOf i).toNat)
 case atStart=>exact⟨0,Xn _,rfl,rfl,by first|rfl|Xs⟩
 case round=>
  obtain⟨k,hk,rfl,rfl,hwr⟩:=hrel;have hwr:=hwr.symm;subst hwr;obtain⟨bb,hbb⟩:∃z,jU EL n (oN O) g Ze (L.take k)=z:=⟨_,rfl⟩
  rw[hbb];by_cases hkl:k<L.length
  ·obtain⟨zZ,rfl,nL,l0⟩:=wW.out.row.at_ hkl;have l0:w5.cell? (zZ.add k)=some (.int .i64 L[k]):=by have:=l0;rw[Xq]at this;exact this
   have l0:=(H5.out.cell (p:=zZ.add k) (by rw[zC];exact nL)).trans l0;obtain⟨t0,t1⟩:=Yi.out g L[k] (by rw[kL.out];exact Xd hkl);have HTK:Hid (jU EL n (oN O) g Ze (L.take (k+1))=ZA EL n (oN O) g bb L[k]):=zH (by rw[Rc hkl,hbb]);generalize L[k]=tt at*
   obtain⟨t,rfl⟩:=Xj t0;have htn:t<n:=by omega
   obtain⟨gt,hgt⟩:∃z,G[t]? =some z:=⟨_,Xc (by rw[dV.out];exact htn)⟩
   have e1:=HQ.out.row_get hgt;have e2:=HQ.out.bit_get hgt fQ.out;have o1:=HB.out.at_ (t:=t) (by rw[QK.out.len];exact htn);have htop:=QK.out.top t;rw[lH.out t g htn fQ.out]at e2;obtain⟨b4,hb4⟩:∃z,jH EL n t g=z:=⟨_,rfl⟩
   rw[hb4]at e2;have jw:=zH hb4;clear hgt hb4;cases b4
   ·obtain⟨ov,hov⟩:∃z,oN O t=z:=⟨_,rfl⟩
    have VX:=zH hov;rw[hov]at o1 htop;clear hov;by_cases hgr:bb<ov
    ·have hgi:ov>bb:=hgr;have HY:Hid (jU EL n (oN O) g Ze (L.take (k+1))=ov):=zH (by rw[HTK.out];unfold ZA;rw[Xo,VX.out,Xb ⟨jw.out,hgr⟩]);go_wp2_with fail
     go_roundw;case rel=>exact⟨k+1,by omega,by go_num,by rw[HY.out],by first|rfl|Xs⟩
     case measure=>simp[intOf];omega
    ·have hgi:¬ov>bb:=hgr;have HY:Hid (jU EL n (oN O) g Ze (L.take (k+1))=bb):=zH (by rw[HTK.out];unfold ZA;rw[Xo,VX.out,Xa (fun z=>hgr z.2)]);go_wp2_with fail
     go_roundw;case rel=>exact⟨k+1,by omega,by go_num,by rw[HY.out],by first|rfl|Xs⟩
     case measure=>simp[intOf];omega
   ·have HY:Hid (jU EL n (oN O) g Ze (L.take (k+1))=bb):=zH (by rw[HTK.out];unfold ZA;rw[Xo,Xa (fun z=>by rw[jw.out]at z;cases z.1)]);go_wp2_with fail
    go_roundw;case rel=>exact⟨k+1,by omega,by go_num,by rw[HY.out],by first|rfl|Xs⟩
    case measure=>simp[intOf];omega
  ·have hki:¬(k:Int)<(L.length:Int):=by omega
   have aU:Hid (kt EL n (oN O) f (g+1)=bb):=zH (by
    show(if ka EL n f g=true then jU EL n (oN O) g (kt EL n (oN O) f g) (EL[g]?.getD [])else _)=_;rw[Xb ki.out,xY.out,kL.out,<-hbb,XA (by omega)])
   go_wp2_with fail
   go_roundw;case rel=>exact⟨g+1,own+x.depth*FR,bb,by omega,by go_num,by go_num,rfl,HOW,aU,HB,HV⟩
   case measure=>simp[intOf];omega):P:=h
theorem PD{P:Prop}(h:P:=by
 have HON:Hid (kq EL n (jT m maps) f (g+1)=own):=zH (by
  show(if ka EL n f g=true then _ else kq EL n (jT m maps) f g)=_;rw[Xa (by rw[hpt];simp),gF.out])
 have oL:Hid (kt EL n (oN O) f (g+1)=Ze):=zH (by
  show(if ka EL n f g=true then _ else kt EL n (oN O) f g)=_;rw[Xa (by rw[hpt];simp),xY.out])
 clear hpt;go_wp2_with fail
 go_roundw;case rel=>exact⟨g+1,own,Ze,by omega,by go_num,rfl,rfl,HON,oL,HB,HV⟩
 case measure=>simp[intOf];omega):P:=h
set_option maxHeartbeats 12800000 in
theorem q70(m:za)(maps:List (List zq))(A:Option Addr)(c:Nat)(h:zh)(w:World)(H:zr w w.heap.size h m)(hs:Ql m=true)(hM:zd (zM vd 2) 1 w w.heap.size A c maps)(hz:ZS 4000 maps):
  Calls Tryz.prog 53 #[zv h m,.slice A maps.length c] w (WY m maps w):=by
 obtain⟨i1,hi1,hy0,hy1,hy2⟩:=jJ ZL;have HW:=zH (vU (w:=w) (h:=h) (m:=m));have HBX:=zH (qd w h m);have HZ:Hid (w.heap.size<(w.alloc (ze h m)).heap.size):=zH (by simp);have HI:=zH (H.now HW.out);have Zd:=zH (jP Vp.keeps hM HW.out);have vl:=zH hz;have QV:=zH hs;have HM:=zH (Dz hs);have hle:=H.methods.le;have hcap:=H.methods.cap;have hl1:=hM.le;have hl2:=hM.cap;obtain⟨n,hn⟩:=zj (m.methods.length);have fO:n<=12:=by have:=(Io hs).1;omega
 have HN:=zH hn;obtain⟨EL,Ya⟩:=zj (vK m);have kG:=zH Ya;have av:Hid (vK m=EL/\EL.length=n):=zH ⟨Ya,by rw[<-Ya,Ei];exact hn⟩;have r9:Hid (EL.length=n):=zH av.out.2;have Yi:Hid (Jl EL n):=zH (by rw[<-Ya,<-hn];exact Lg m);obtain⟨nm,hnm⟩:∃z,maps.length=z:=⟨_,rfl⟩
 have Qc:=zH hnm;rw[hnm];rw[hnm]at hl1;clear H hM hz hs hn Ya hnm;have HX:Hid (Below (w.alloc (ze h m)).heap.size (w.alloc (ze h m)) (w.alloc (ze h m))):=zH (zb _ _);go_enter Tryz.func53,Tryz.ntmps53;go_upto_region 1 with fail
 generalize w.alloc (ze h m)=w1 at*
 obtain⟨q0,q1,q2,q3,q4,q5,q6⟩:=HBX.out;go_upto_region 3 with(first
  |(go_at_call 14;(with_reducible refine(qbw HI HX QV av).mono ?_);rintro e w5 ⟨A5,c5,rfl,hs,hb⟩;have qc:=zH hb;have Hl:=zH hs;clear hb hs;obtain⟨q0,q1,q2,q3,q4,q5,q6⟩:=HBX.out.keep qc.out HZ.out)
  |(go_at_call 94;(with_reducible refine(qg2 Hl r9 (by omega)).mono ?_);rintro e w6 ⟨gO,G,W,rfl,hb,hq,hg,hw,hgo,hgg⟩;have MW:=zH hb;have tT:=zi qc hb;have Yk:=zH hq;have dV:=zH hg;have VQ:=zH hw;clear hb hq hg hw hgo hgg;obtain⟨q0,q1,q2,q3,q4,q5,q6⟩:=HBX.out.keep tT.out HZ.out))
 have lH:Hid (∀i j:Nat,i<n->j<n->qw W i j=jH EL n i j):=zH (fun i j hi hj=>by
  have h1:=VQ.out.iff hi hj;rw[<-ma]at h1;exact XQ.mpr h1)
 have hel:=Hl.out.le;have hec:=Hl.out.cap;rw[r9.out]at hel;clear HX qc;go_wp2_with fail
 try simp only[HN.out]
 go_loopw [9] (fun i wr=>∃k:Nat,k<=n/\i= .int .i64 k/\Hid (∀f,f<k->aF m f=false)/\wr=w6) (fun i _=>n - (intOf i).toNat)
 case atStart=>exact⟨0,Xn _,rfl,zH (fun f hf=>by omega),by first|rfl|Xs⟩
 case round=>
  obtain⟨k,hk,rfl,jZ,hwr⟩:=hrel;have hwr:=hwr.symm;subst hwr;by_cases hkn:k<n
  ·have Ym:k<m.methods.length:=by rw[HN.out];exact hkn
   obtain⟨ad,hx,eA,hab,hin,hc⟩:=Zx HI.out Ym;have c5:=(tT.out.cell (p:=zc (ad.add (k*8)) 5) (by show(ad.add _).block<_;rw[zC];exact hab)).trans hc.c5;have VN:zA m (k:Int)=m.methods[k]:=by unfold zA;rw[Xo,Xc Ym];rfl
   have hxd:=(HM.out.method (Xd Ym)).fits.d0;have q1p:=(HM.out.method (Xd Ym)).fits.d1;generalize m.methods[k]=x at*
   rw[eA]at q3;obtain⟨gk,yC⟩:∃z,G[k]? =some z:=⟨_,Xc (by rw[dV.out];exact hkn)⟩
   have e1:=Yk.out.row_get yC;have e2:=Yk.out.bit_get yC hkn;rw[lH.out k k hkn hkn]at e2;obtain⟨b,hb⟩:∃z,jH EL n k k=z:=⟨_,rfl⟩
   rw[hb]at e2;have Nn:Hid (aF m k=(b&& decide (x.depth<1))):=zH (by unfold aF;rw[VN,kG.out,HN.out,hb]);clear yC hb VN hc hin;cases b
   ·have qO:Hid (∀f,f<k+1->aF m f=false):=zH (fun f hf=>by
     rcases Xl f k with q|q
     ·exact jZ.out f q
     ·obtain rfl:f=k:=by omega
      rw[Nn.out];rfl)
    go_wp2_with fail
    go_roundw;case rel=>exact⟨k+1,by omega,by go_num,qO,by first|rfl|Xs⟩
    case measure=>simp[intOf];omega
   by_cases hd:x.depth<1
   ·have Zs:Hid (false=kQ m):=zH (by
     unfold kQ;rw[Tw Ym (by rw[Nn.out,Xi hd];rfl)])
    go_wp2_with fail
    refine Xk (v:= .tuple #[.slice none 0 0,.bool false]) (by simp[results,Tryz.results53,go_sem]) rfl ?_;exact⟨none,0,0,false,rfl,HW.out.trans (tT.out.mono (Xg HZ.out)),Zs.out,fun e=>by cases e⟩
   ·have qO:Hid (∀f,f<k+1->aF m f=false):=zH (fun f hf=>by
     rcases Xl f k with q|q
     ·exact jZ.out f q
     ·obtain rfl:f=k:=by omega
      rw[Nn.out,Xf hd];rfl)
    go_wp2_with fail
    go_roundw;case rel=>exact⟨k+1,by omega,by go_num,qO,by first|rfl|Xs⟩
    case measure=>simp[intOf];omega
  have hki:¬(k:Int)<(n:Int):=by omega
  have Zs:Hid (true=kQ m):=zH (by
   unfold kQ;rw[D8.mpr (fun f hf=>by rw[jZ.out f (by rw[HN.out]at hf;omega)];rfl)])
  clear jZ;go_upto_region 10 with(at_make;refine wpList_make_full _ rfl _ _ 27 rfl w6.heap.size 3 i1 (.int .i64 0) 1 Tryz.underlying27 hi1 hy0 hy1 .i64 .i64 _ _ n rfl rfl rfl rfl (by rw[hy2];omega) (by unfold maxLen;omega) (zn _) ?_;intro w7 hown hgrow;have aR:=zH hown;have HV:=zH ((zb w6.heap.size w6).grown hgrow (zn _) (fun k hk=>by cases hk));clear hown hgrow)
  have HB:Hid (qk w7 w6.heap.size (List.replicate n 0)):=zH (by
   have h1:=o5 aR.out;rw[mi (v:= .int .i64 0) rfl]at h1;unfold qk;rw[List.map_replicate];exact h1)
  have QK:Hid (YC EL n (jT m maps) 0 0 (List.replicate n 0)):=zH YC.start;generalize(List.replicate n (0:Int))=O0 at*
  clear aR;obtain⟨gB,hgB⟩:∃z,w6.heap.size=z:=⟨_,rfl⟩
  have qR:Hid (w6.heap.size<=gB):=zH (by rw[hgB];exact zn _);rw[hgB]at HB;go_wp2_with fail
  try simp only[hgB]
  clear hgB q0 q1 q2 q3 q4 q5 q6;go_loopw [11] (fun i wr=>∃(r:Nat) (O:List Int),r<=n/\i= .int .i64 r/\Hid (YC EL n (jT m maps) r 0 O)/\Hid (qk wr gB O)/\Hid (Below w6.heap.size w6 wr)) (fun i _=>n - (intOf i).toNat)
  case atStart=>exact⟨0,O0,Xn _,rfl,QK,HB,HV⟩
  case round=>
   clear QK HB HV;obtain⟨r,O,hr,rfl,QK,HB,HV⟩:=hrel;by_cases hrn:r<n;rotate_left
   ·have hri:¬(r:Int)<(n:Int):=by omega
    have xD:Hid (O=vV m maps):=zH (by
     rw[QK.out.done (by omega)];unfold vV;rw[kG.out,HN.out])
    have HX:=zH (zD tT HV);go_wp2_with fail
    refine Xk (v:= .tuple #[.slice (some ⟨gB,0,none⟩) n n,.bool true]) (by simp[results,Tryz.results53,go_sem]) rfl ?_;exact⟨some ⟨gB,0,none⟩,n,n,true,rfl,HW.out.trans (HX.out.mono (Xg HZ.out)),Zs.out,fun _=>⟨HN.out.symm,by rw[<-xD.out];exact HB.out.slc QK.out.len (by omega)⟩⟩
   go_wp2_with fail
   go_loopw [12] (fun i wr=>∃(f:Nat) (O:List Int),f<=n/\i= .int .i64 f/\Hid (YC EL n (jT m maps) r f O)/\Hid (qk wr gB O)/\Hid (Below w6.heap.size w6 wr)) (fun i _=>n - (intOf i).toNat)
   case atStart=>exact⟨0,O,Xn _,rfl,QK,HB,HV⟩
   case round=>
    clear QK HB HV;clear O;obtain⟨f,O,hf,rfl,QK,HB,HV⟩:=hrel;by_cases hfn:f<n;rotate_left
    ·have hfi:¬(f:Int)<(n:Int):=by omega
     have xR:=zH (QK.out.next (by omega) (by omega));go_wp2_with fail
     go_roundw;case rel=>exact⟨r+1,O,by omega,by go_num,xR,HB,HV⟩
     case measure=>simp[intOf];omega
    have HFN:=zH hfn;obtain⟨gf,hgf⟩:∃z,G[f]? =some z:=⟨_,Xc (by rw[dV.out];exact hfn)⟩
    have HGF:=zH hgf;clear hgf;go_wp2_with fail
    go_loopw [13,14,15] (fun ov bv i wr=>∃(g:Nat) (own Ze:Int),g<=n/\i= .int .i64 g/\ov= .int .i64 own/\bv= .int .i64 Ze/\Hid (kq EL n (jT m maps) f g=own)/\Hid (kt EL n (oN O) f g=Ze)/\Hid (qk wr gB O)/\Hid (Below w6.heap.size w6 wr)) (fun _ _ i _=>n - (intOf i).toNat)
    case atStart=>exact⟨0,0,0,Xn _,rfl,rfl,rfl,zH rfl,zH rfl,HB,HV⟩
    case round=>
     clear HB HV;obtain⟨g,own,Ze,hg,rfl,rfl,rfl,gF,xY,HB,HV⟩:=hrel;have HX:=zH (zD tT HV);have H5:=zH (zD MW HV);have HQ:=zH (Yk.out.keep HV.out);obtain⟨q0,q1,q2,q3,q4,q5,q6⟩:=HBX.out.keep HX.out HZ.out;have ho0:0<=own:=by rw[<-gF.out];exact KC (p8 HM.out)
     have ho1:own<=g*32088:=by rw[<-gF.out];exact TD (wD HM.out vl.out) (by omega)
     have hb0:0<=Ze:=by rw[<-xY.out];exact KU
     have hb1:Ze<=4800000*r+400000*f:=by rw[<-xY.out];exact Ut Yi.out (by omega) (fun t _=>QK.out.top t)
     by_cases hgn:g<n;rotate_left
     ·have hgi:¬(g:Int)<(n:Int):=by omega
      obtain rfl:g=n:=by omega
      have c0:=HB.out.at_ (t:=f) (by rw[QK.out.len];exact hfn);have f0:=HB.out.free f;have HST:Hid (YC EL g (jT m maps) r (f+1) (O.set f (own+Ze))):=zH (by
       have:=QK.out.step Yi.out fO (p8 HM.out) (wD HM.out vl.out) hfn
       rwa [gF.out,xY.out]at this)
      go_wp2_with fail
      go_roundw;case rel=>exact⟨f+1,O.set f (own+Ze),by omega,by go_num,HST,zH (HB.out.set (own+Ze)),zH (HV.out.setCell (p:=⟨gB,f,none⟩) qR.out _)⟩
      case measure=>simp[intOf];omega
     have fQ:=zH hgn;have hgm:g<m.methods.length:=by rw[HN.out];exact hgn
     obtain⟨ad,hx,eA,hab,hin,hc⟩:=Zx HI.out hgm;have c5:=(HX.out.cell (p:=zc (ad.add (g*8)) 5) (by show(ad.add _).block<_;rw[zC];exact hab)).trans hc.c5;have VN:zA m (g:Int)=m.methods[g]:=by unfold zA;rw[Xo,Xc hgm];rfl
     have hxd:=(HM.out.method (Xd hgm)).fits.d0;have q1p:=(HM.out.method (Xd hgm)).fits.d1;generalize m.methods[g]=x at*
     clear q0 q1 q2 q3 q4 q5 q6;obtain⟨A0,Ab,A2,A3,A4,k0,k1,k2,k3,k4⟩:=h;dsimp only at eA hle hcap;subst eA;obtain⟨q0,q1,q2,q3,q4,q5,q6⟩:=HBX.out.keep HX.out HZ.out;have uC:=zH (jP Vp.keeps Zd.out HX.out);obtain⟨FR,j5⟩:∃z,jy m maps (g:Int)=z:=⟨_,rfl⟩
     have VZ:=zH j5;have hF0:0<=FR:=by rw[<-j5];exact Ai
     have hF1:FR<=4011:=by rw[<-j5];exact Ef HM.out vl.out
     have xH:g<EL.length:=by rw[r9.out];exact hgn
     obtain⟨dI,rfl,x9,A1,cL,r0,jd⟩:=Hl.out.row.at_ xH;obtain⟨L,hL⟩:∃z,EL[g]=z:=⟨_,rfl⟩
     rw[hL]at r0 jd;rw[Xq]at r0;have kL:Hid (EL[g]?.getD []=L):=zH (by rw[Xc xH,hL];rfl);have HRO:=zH r0;have wW:=zH jd;have hrl:=jd.le;have hrc:=jd.cap;obtain⟨gg,hgg⟩:∃z,G[g]? =some z:=⟨_,Xc (by rw[dV.out];exact hgn)⟩
     have e1:=HQ.out.row_get HGF.out;have e3:=HQ.out.row_get hgg;have e2:=HQ.out.bit_get HGF.out hgn;have e4:=HQ.out.bit_get hgg hfn;rw[lH.out f g hfn hgn]at e2;rw[lH.out g f hgn hfn]at e4;clear j5 hL r0 jd xH hc hin;by_cases hgf:g=f
     ·have hne:((g:Int) !=(f:Int))=false:=X7.mpr (by omega);have ki:Hid (ka EL n f g=true):=zH (mh.mpr (.inl hgf));clear hgf;obtain⟨b3,hb3⟩:∃z,jH EL n g g=z:=⟨_,rfl⟩
      have e5:=HQ.out.bit_get hgg fQ.out;rw[lH.out g g fQ.out fQ.out,hb3]at e5;rw[<-kG.out,<-HN.out]at hb3;cases b3
      ·exact PH
      ·exact PE
     have hne:((g:Int) !=(f:Int))=true:=XP.mpr (by omega);obtain⟨b1,hb1'⟩:∃z,jH EL n f g=z:=⟨_,rfl⟩
     obtain⟨b2,hb2'⟩:∃z,jH EL n g f=z:=⟨_,rfl⟩
     rw[hb1']at e2;rw[hb2']at e4;have hpt:ka EL n f g=(b1&& b2):=by unfold ka;rw[Xf hgf,Bool.false_or,hb1',hb2']
     clear hb1' hb2' hgf;cases b1
     ·exact PD
     cases b2
     ·exact PD
     have ki:Hid (ka EL n f g=true):=zH hpt;clear hpt;obtain⟨b3,hb3⟩:∃z,jH EL n g g=z:=⟨_,rfl⟩
     have e5:=HQ.out.bit_get hgg fQ.out;rw[lH.out g g fQ.out fQ.out,hb3]at e5;rw[<-kG.out,<-HN.out]at hb3;cases b3
     ·exact PH
     ·exact PE
