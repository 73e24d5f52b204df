import Derived.Test.YtcmiljnbmgkdnaaGreatFA35
namespace Go.Proofs.YtcmiljnbmgkdnaaGreat
set_option maxRecDepth 100000
set_option linter.unusedVariables false
set_option linter.unusedSimpArgs false
open Go.ChangeShapes Go.WideShapes Go.ChangeAt Go.RowKit
def qdm(m:za)(maps:List (List zm))(w:World)(e:Ending)(w':World):Prop:=∃A n c ok,e= .returned (.tuple #[.slice A n c,.bool ok])∧Below w.heap.size w w'∧ok=jr m∧(ok=true→n=m.methods.length∧zd zq 1 w' w'.heap.size A c (jA m maps))
theorem q7h{P:Prop}(h:P:=by
 have hT:Qv m g=(1:Int):=by unfold Qv;rw[hmn];rw[Xa (by rw[hb3];decide)]
 have HCG:Hid (jd m maps g=(1:Int)*FR):=zH (by unfold jd;rw[hT,HFR.out]);have hP0:0≤(1:Int)*FR:=by rw[←HCG.out];exact YK HM.out g
 have hP1:(1:Int)*FR≤32088:=by rw[←HCG.out];exact Vx HM.out HMZ.out g
 have HOW:Hid (jN EL n (jd m maps) f (g+1)=own+(1:Int)*FR):=zH (by
  show(if jG EL n f g=true then jN EL n (jd m maps) f g+jd m maps g else _)=_;rw[Xb HPT.out,HCG.out,HOE.out])
 clear hT;go_upto_region 26 with(go_at_call 65;(with_reducible refine(qao HI HX HM HSM HMZ HMN HFR).mono ?_);rintro e w9 ⟨rfl,hb⟩;have HV9:=zl HV hb;have HB9:=zH (HB.out.keep hb);clear hb)
 have HV:=HV9;have HB:=HB9;clear HX H5 HQ q0 q1 q2 q3 q4 q5 q6;have HX:=zH (H61.out.trans (HV.out.mono H61.out.size));have H5:=zH (H65.out.trans (HV.out.mono H65.out.size));have HQ:=zH (HQ6.out.keep HV.out);obtain⟨q0,q1,q2,q3,q4,q5,q6⟩:=HBX.out.keep HX.out HZ.out;have er:=(H5.out.cell (p:=adE.add g) (by rw[zp];exact habE)).trans HRO.out;go_loopw [14,17] (fun bv i wr=>∃k:Nat,k≤L.length∧i= .int .i64 k∧bv= .int .i64 (je EL n (oN O) g bey (L.take k))∧wr=w9) (fun _ i _=>L.length - (intOf i).toNat)
 case atStart=>exact⟨0,Xl _,rfl,rfl,by first|rfl|trivial⟩
 case round=>
  obtain⟨k,hk,rfl,rfl,hwr⟩:=hrel;have hwr:=hwr.symm;subst hwr;obtain⟨bb,hbb⟩:∃z,je EL n (oN O) g bey (L.take k)=z:=⟨_,rfl⟩
  rw[hbb];by_cases hkl:k<L.length
  ·obtain⟨adL,rfl,habL,l0⟩:=HLR.out.row.at_ hkl;have l0:w5.cell? (adL.add k)=some (.int .i64 L[k]):=by have:=l0;rw[Xq]at this;exact this
   have l0:=(H5.out.cell (p:=adL.add k) (by rw[zp];exact habL)).trans l0;obtain⟨t0,t1⟩:=HED.out g L[k] (by rw[HLE.out];exact Xd hkl);have HTK:Hid (je EL n (oN O) g bey (L.take (k+1))=vx EL n (oN O) g bb L[k]):=zH (by rw[q8b hkl,hbb]);generalize L[k]=tt at*
   obtain⟨t,rfl⟩:=Xm t0;have htn:t<n:=by omega
   obtain⟨gt,hgt⟩:∃z,G[t]? =some z:=⟨_,Xc (by rw[HGL.out];exact htn)⟩
   have e1:=HQ.out.row_get hgt;have e2:=HQ.out.bit_get hgt HGN.out;have o1:=HB.out.at_ (t:=t) (by rw[HRI.out.len];exact htn);have htop:=HRI.out.top t;rw[HWB.out t g htn HGN.out]at e2;obtain⟨b4,hb4⟩:∃z,qM EL n t g=z:=⟨_,rfl⟩
   rw[hb4]at e2;have HB4:=zH hb4;clear hgt hb4;cases b4
   ·obtain⟨ov,hov⟩:∃z,oN O t=z:=⟨_,rfl⟩
    have HOV:=zH hov;rw[hov]at o1 htop;clear hov;by_cases hgr:bb<ov
    ·have hgi:ov>bb:=hgr;have HY:Hid (je EL n (oN O) g bey (L.take (k+1))=ov):=zH (by rw[HTK.out];unfold vx;rw[Xe,HOV.out,Xb ⟨HB4.out,hgr⟩]);go_wp2_with fail
     go_roundw;case rel=>exact⟨k+1,by omega,by go_num,by rw[HY.out],by first|rfl|trivial⟩
     case measure=>simp[intOf];omega
    ·have hgi:¬ov>bb:=hgr;have HY:Hid (je EL n (oN O) g bey (L.take (k+1))=bb):=zH (by rw[HTK.out];unfold vx;rw[Xe,HOV.out,Xa (fun z=>hgr z.2)]);go_wp2_with fail
     go_roundw;case rel=>exact⟨k+1,by omega,by go_num,by rw[HY.out],by first|rfl|trivial⟩
     case measure=>simp[intOf];omega
   ·have HY:Hid (je EL n (oN O) g bey (L.take (k+1))=bb):=zH (by rw[HTK.out];unfold vx;rw[Xe,Xa (fun z=>by rw[HB4.out]at z;cases z.1)]);go_wp2_with fail
    go_roundw;case rel=>exact⟨k+1,by omega,by go_num,by rw[HY.out],by first|rfl|trivial⟩
    case measure=>simp[intOf];omega
  ·have hki:¬(k:Int)<(L.length:Int):=by omega
   have HBE:Hid (jP EL n (oN O) f (g+1)=bb):=zH (by
    show(if jG EL n f g=true then je EL n (oN O) g (jP EL n (oN O) f g) (EL[g]?.getD [])else _)=_;rw[Xb HPT.out,HBY.out,HLE.out,←hbb,XH (by omega)])
   go_wp2_with fail
   go_roundw;case rel=>exact⟨g+1,own+(1:Int)*FR,bb,by omega,by go_num,by go_num,rfl,HOW,HBE,HB,HV⟩
   case measure=>simp[intOf];omega):P:=h
theorem q7g{P:Prop}(h:P:=by
 have hT:Qv m g=x.depth:=by unfold Qv;rw[hmn];rw[Xb hb3]
 have HCG:Hid (jd m maps g=x.depth*FR):=zH (by unfold jd;rw[hT,HFR.out]);have hP0:0≤x.depth*FR:=by rw[←HCG.out];exact YK HM.out g
 have hP1:x.depth*FR≤32088:=by rw[←HCG.out];exact Vx HM.out HMZ.out g
 have HOW:Hid (jN EL n (jd m maps) f (g+1)=own+x.depth*FR):=zH (by
  show(if jG EL n f g=true then jN EL n (jd m maps) f g+jd m maps g else _)=_;rw[Xb HPT.out,HCG.out,HOE.out])
 clear hT;go_upto_region 26 with(go_at_call 65;(with_reducible refine(qao HI HX HM HSM HMZ HMN HFR).mono ?_);rintro e w9 ⟨rfl,hb⟩;have HV9:=zl HV hb;have HB9:=zH (HB.out.keep hb);clear hb)
 have HV:=HV9;have HB:=HB9;clear HX H5 HQ q0 q1 q2 q3 q4 q5 q6;have HX:=zH (H61.out.trans (HV.out.mono H61.out.size));have H5:=zH (H65.out.trans (HV.out.mono H65.out.size));have HQ:=zH (HQ6.out.keep HV.out);obtain⟨q0,q1,q2,q3,q4,q5,q6⟩:=HBX.out.keep HX.out HZ.out;have er:=(H5.out.cell (p:=adE.add g) (by rw[zp];exact habE)).trans HRO.out;go_loopw [14,17] (fun bv i wr=>∃k:Nat,k≤L.length∧i= .int .i64 k∧bv= .int .i64 (je EL n (oN O) g bey (L.take k))∧wr=w9) (fun _ i _=>L.length - (intOf i).toNat)
 case atStart=>exact⟨0,Xl _,rfl,rfl,by first|rfl|trivial⟩
 case round=>
  obtain⟨k,hk,rfl,rfl,hwr⟩:=hrel;have hwr:=hwr.symm;subst hwr;obtain⟨bb,hbb⟩:∃z,je EL n (oN O) g bey (L.take k)=z:=⟨_,rfl⟩
  rw[hbb];by_cases hkl:k<L.length
  ·obtain⟨adL,rfl,habL,l0⟩:=HLR.out.row.at_ hkl;have l0:w5.cell? (adL.add k)=some (.int .i64 L[k]):=by have:=l0;rw[Xq]at this;exact this
   have l0:=(H5.out.cell (p:=adL.add k) (by rw[zp];exact habL)).trans l0;obtain⟨t0,t1⟩:=HED.out g L[k] (by rw[HLE.out];exact Xd hkl);have HTK:Hid (je EL n (oN O) g bey (L.take (k+1))=vx EL n (oN O) g bb L[k]):=zH (by rw[q8b hkl,hbb]);generalize L[k]=tt at*
   obtain⟨t,rfl⟩:=Xm t0;have htn:t<n:=by omega
   obtain⟨gt,hgt⟩:∃z,G[t]? =some z:=⟨_,Xc (by rw[HGL.out];exact htn)⟩
   have e1:=HQ.out.row_get hgt;have e2:=HQ.out.bit_get hgt HGN.out;have o1:=HB.out.at_ (t:=t) (by rw[HRI.out.len];exact htn);have htop:=HRI.out.top t;rw[HWB.out t g htn HGN.out]at e2;obtain⟨b4,hb4⟩:∃z,qM EL n t g=z:=⟨_,rfl⟩
   rw[hb4]at e2;have HB4:=zH hb4;clear hgt hb4;cases b4
   ·obtain⟨ov,hov⟩:∃z,oN O t=z:=⟨_,rfl⟩
    have HOV:=zH hov;rw[hov]at o1 htop;clear hov;by_cases hgr:bb<ov
    ·have hgi:ov>bb:=hgr;have HY:Hid (je EL n (oN O) g bey (L.take (k+1))=ov):=zH (by rw[HTK.out];unfold vx;rw[Xe,HOV.out,Xb ⟨HB4.out,hgr⟩]);go_wp2_with fail
     go_roundw;case rel=>exact⟨k+1,by omega,by go_num,by rw[HY.out],by first|rfl|trivial⟩
     case measure=>simp[intOf];omega
    ·have hgi:¬ov>bb:=hgr;have HY:Hid (je EL n (oN O) g bey (L.take (k+1))=bb):=zH (by rw[HTK.out];unfold vx;rw[Xe,HOV.out,Xa (fun z=>hgr z.2)]);go_wp2_with fail
     go_roundw;case rel=>exact⟨k+1,by omega,by go_num,by rw[HY.out],by first|rfl|trivial⟩
     case measure=>simp[intOf];omega
   ·have HY:Hid (je EL n (oN O) g bey (L.take (k+1))=bb):=zH (by rw[HTK.out];unfold vx;rw[Xe,Xa (fun z=>by rw[HB4.out]at z;cases z.1)]);go_wp2_with fail
    go_roundw;case rel=>exact⟨k+1,by omega,by go_num,by rw[HY.out],by first|rfl|trivial⟩
    case measure=>simp[intOf];omega
  ·have hki:¬(k:Int)<(L.length:Int):=by omega
   have HBE:Hid (jP EL n (oN O) f (g+1)=bb):=zH (by
    show(if jG EL n f g=true then je EL n (oN O) g (jP EL n (oN O) f g) (EL[g]?.getD [])else _)=_;rw[Xb HPT.out,HBY.out,HLE.out,←hbb,XH (by omega)])
   go_wp2_with fail
   go_roundw;case rel=>exact⟨g+1,own+x.depth*FR,bb,by omega,by go_num,by go_num,rfl,HOW,HBE,HB,HV⟩
   case measure=>simp[intOf];omega):P:=h
theorem q7f{P:Prop}(h:P:=by
 have HON:Hid (jN EL n (jd m maps) f (g+1)=own):=zH (by
  show(if jG EL n f g=true then _ else jN EL n (jd m maps) f g)=_;rw[Xa (by rw[hpt];simp),HOE.out])
 have HBN:Hid (jP EL n (oN O) f (g+1)=bey):=zH (by
  show(if jG EL n f g=true then _ else jP EL n (oN O) f g)=_;rw[Xa (by rw[hpt];simp),HBY.out])
 clear hpt;go_wp2_with fail
 go_roundw;case rel=>exact⟨g+1,own,bey,by omega,by go_num,rfl,rfl,HON,HBN,HB,HV⟩
 case measure=>simp[intOf];omega):P:=h
set_option maxHeartbeats 12800000 in
theorem qie(m:za)(maps:List (List zm))(A:Option Addr)(c:Nat)(h:zg)(w:World)(H:zi w w.heap.size h m)(hs:vd m=true)(hM:zd (zG jp 2) 1 w w.heap.size A c maps)(hz:vK 4000 maps):
  Calls Tryz.prog 30 #[zk h m,.slice A maps.length c] w (qdm m maps w):=by
 obtain⟨i1,hi1,hy0,hy1,hy2⟩:=qQ vD;have HW:=zH (jz (w:=w) (h:=h) (m:=m));have HBX:=zH (zX w h m);have HZ:Hid (w.heap.size<(w.alloc (zo h m)).heap.size):=zH (by simp);have HI:=zH (H.now HW.out);have HM0:=zH (qX RowAt.keeps hM HW.out);have HMZ:=zH hz;have HSB:=zH hs;have HM:=zH (q1k hs);have hle:=H.methods.le;have hcap:=H.methods.cap;have hl1:=hM.le;have hl2:=hM.cap;obtain⟨n,hn⟩:∃n,m.methods.length=n:=⟨_,rfl⟩
 have hn12:n≤12:=by have:=(q39 hs).1;omega
 have HN:=zH hn;obtain⟨EL,hEL⟩:∃EL,jv m=EL:=⟨_,rfl⟩
 have HEQ:=zH hEL;have HEL:Hid (jv m=EL∧EL.length=n):=zH ⟨hEL,by rw[←hEL,q27];exact hn⟩;have HELN:Hid (EL.length=n):=zH HEL.out.2;have HED:Hid (kv EL n):=zH (by rw[←hEL,←hn];exact q5l m);obtain⟨nm,hnm⟩:∃z,maps.length=z:=⟨_,rfl⟩
 have HMN:=zH hnm;rw[hnm];rw[hnm]at hl1;clear H hM hz hs hn hEL hnm;have HX:Hid (Below (w.alloc (zo h m)).heap.size (w.alloc (zo h m)) (w.alloc (zo h m))):=zH (zb _ _);go_enter Tryz.func30,Tryz.ntmps30;go_upto_region 1 with fail
 generalize w.alloc (zo h m)=w1 at*
 obtain⟨q0,q1,q2,q3,q4,q5,q6⟩:=HBX.out;go_upto_region 3 with(first
  |(go_at_call 19;(with_reducible refine(qn2 HI HX HSB HEL).mono ?_);rintro e w5 ⟨A5,c5,rfl,hs,hb⟩;have HX5:=zH hb;have HE5:=zH hs;clear hb hs;obtain⟨q0,q1,q2,q3,q4,q5,q6⟩:=HBX.out.keep HX5.out HZ.out)
  |(go_at_call 64;(with_reducible refine(qqs HE5 HELN (by omega)).mono ?_);rintro e w6 ⟨gO,G,W,rfl,hb,hq,hg,hw,hgo,hgg⟩;have H65:=zH hb;have H61:=zl HX5 hb;have HQ6:=zH hq;have HGL:=zH hg;have HWY:=zH hw;clear hb hq hg hw hgo hgg;obtain⟨q0,q1,q2,q3,q4,q5,q6⟩:=HBX.out.keep H61.out HZ.out))
 have HWB:Hid (∀i j:Nat,i<n→j<n→qf W i j=qM EL n i j):=zH (fun i j hi hj=>by
  have h1:=HWY.out.iff hi hj;rw[←JS]at h1;exact XV.mpr h1)
 have hel:=HE5.out.le;have hec:=HE5.out.cap;rw[HELN.out]at hel;clear HX HX5;go_wp2_with fail
 try simp only[HN.out]
 go_loopw [9] (fun i wr=>∃k:Nat,k≤n∧i= .int .i64 k∧Hid (∀f,f<k→Qc m f=false)∧wr=w6) (fun i _=>n - (intOf i).toNat)
 case atStart=>exact⟨0,Xl _,rfl,zH (fun f hf=>by omega),by first|rfl|trivial⟩
 case round=>
  obtain⟨k,hk,rfl,HBD,hwr⟩:=hrel;have hwr:=hwr.symm;subst hwr;by_cases hkn:k<n
  ·have hkm:k<m.methods.length:=by rw[HN.out];exact hkn
   obtain⟨ad,hx,eA,hab,hin,hc⟩:=jJ HI.out hkm;have c5:=(H61.out.cell (p:=zc (ad.add (k*8)) 5) (by show(ad.add _).block<_;rw[zp];exact hab)).trans hc.c5;have hmn:zu m (k:Int)=m.methods[k]:=by unfold zu;rw[Xe,Xc hkm];rfl
   have hxd:=(HM.out.method (Xd hkm)).fits.d0;have hxd1:=(HM.out.method (Xd hkm)).fits.d1;generalize m.methods[k]=x at*
   rw[eA]at q3;obtain⟨gk,hgk⟩:∃z,G[k]? =some z:=⟨_,Xc (by rw[HGL.out];exact hkn)⟩
   have e1:=HQ6.out.row_get hgk;have e2:=HQ6.out.bit_get hgk hkn;rw[HWB.out k k hkn hkn]at e2;obtain⟨b,hb⟩:∃z,qM EL n k k=z:=⟨_,rfl⟩
   rw[hb]at e2;have HBR:Hid (Qc m k=(b&& decide (x.depth<1))):=zH (by unfold Qc;rw[hmn,HEQ.out,HN.out,hb]);clear hgk hb hmn hc hin;cases b
   ·have HNX:Hid (∀f,f<k+1→Qc m f=false):=zH (fun f hf=>by
     rcases Xj f k with q|q
     ·exact HBD.out f q
     ·obtain rfl:f=k:=by omega
      rw[HBR.out];rfl)
    go_wp2_with fail
    go_roundw;case rel=>exact⟨k+1,by omega,by go_num,HNX,by first|rfl|trivial⟩
    case measure=>simp[intOf];omega
   by_cases hd:x.depth<1
   ·have HRB:Hid (false=jr m):=zH (by
     unfold jr;rw[q4o hkm (by rw[HBR.out,Xh hd];rfl)])
    go_wp2_with fail
    refine Xn (v:= .tuple #[.slice none 0 0,.bool false]) (by simp[results,Tryz.results30,go_sem]) rfl ?_;exact⟨none,0,0,false,rfl,HW.out.trans (H61.out.mono (Xk HZ.out)),HRB.out,fun e=>by cases e⟩
   ·have HNX:Hid (∀f,f<k+1→Qc m f=false):=zH (fun f hf=>by
     rcases Xj f k with q|q
     ·exact HBD.out f q
     ·obtain rfl:f=k:=by omega
      rw[HBR.out,Xf hd];rfl)
    go_wp2_with fail
    go_roundw;case rel=>exact⟨k+1,by omega,by go_num,HNX,by first|rfl|trivial⟩
    case measure=>simp[intOf];omega
  have hki:¬(k:Int)<(n:Int):=by omega
  have HRB:Hid (true=jr m):=zH (by
   unfold jr;rw[YE.mpr (fun f hf=>by rw[HBD.out f (by rw[HN.out]at hf;omega)];rfl)])
  clear HBD;go_upto_region 10 with(at_make;refine wpList_make_full _ rfl _ _ 26 rfl w6.heap.size 3 i1 (.int .i64 0) 1 Tryz.underlying26 hi1 hy0 hy1 .i64 .i64 _ _ n rfl rfl rfl rfl (by rw[hy2];omega) (by unfold maxLen;omega) (zn _) ?_;intro w7 hown hgrow;have HO7:=zH hown;have HV:=zH ((zb w6.heap.size w6).grown hgrow (zn _) (fun k hk=>by cases hk));clear hown hgrow)
  have HB:Hid (zY w7 w6.heap.size (List.replicate n 0)):=zH (by
   have h1:=Yx HO7.out;rw[JX (v:= .int .i64 0) rfl]at h1;unfold zY;rw[List.map_replicate];exact h1)
  have HRI:Hid (Zf EL n (jd m maps) 0 0 (List.replicate n 0)):=zH Zf.start;generalize(List.replicate n (0:Int))=O0 at*
  clear HO7;obtain⟨gB,hgB⟩:∃z,w6.heap.size=z:=⟨_,rfl⟩
  have HGB:Hid (w6.heap.size≤gB):=zH (by rw[hgB];exact zn _);rw[hgB]at HB;go_wp2_with fail
  try simp only[hgB]
  clear hgB q0 q1 q2 q3 q4 q5 q6;go_loopw [11] (fun i wr=>∃(r:Nat) (O:List Int),r≤n∧i= .int .i64 r∧Hid (Zf EL n (jd m maps) r 0 O)∧Hid (zY wr gB O)∧Hid (Below w6.heap.size w6 wr)) (fun i _=>n - (intOf i).toNat)
  case atStart=>exact⟨0,O0,Xl _,rfl,HRI,HB,HV⟩
  case round=>
   clear HRI HB HV;obtain⟨r,O,hr,rfl,HRI,HB,HV⟩:=hrel;by_cases hrn:r<n;rotate_left
   ·have hri:¬(r:Int)<(n:Int):=by omega
    have HDN:Hid (O=jA m maps):=zH (by
     rw[HRI.out.done (by omega)];unfold jA;rw[HEQ.out,HN.out])
    have HX:=zH (H61.out.trans (HV.out.mono H61.out.size));go_wp2_with fail
    refine Xn (v:= .tuple #[.slice (some ⟨gB,0,none⟩) n n,.bool true]) (by simp[results,Tryz.results30,go_sem]) rfl ?_;exact⟨some ⟨gB,0,none⟩,n,n,true,rfl,HW.out.trans (HX.out.mono (Xk HZ.out)),HRB.out,fun _=>⟨HN.out.symm,by rw[←HDN.out];exact HB.out.slc HRI.out.len (by omega)⟩⟩
   go_wp2_with fail
   go_loopw [12] (fun i wr=>∃(f:Nat) (O:List Int),f≤n∧i= .int .i64 f∧Hid (Zf EL n (jd m maps) r f O)∧Hid (zY wr gB O)∧Hid (Below w6.heap.size w6 wr)) (fun i _=>n - (intOf i).toNat)
   case atStart=>exact⟨0,O,Xl _,rfl,HRI,HB,HV⟩
   case round=>
    clear HRI HB HV;clear O;obtain⟨f,O,hf,rfl,HRI,HB,HV⟩:=hrel;by_cases hfn:f<n;rotate_left
    ·have hfi:¬(f:Int)<(n:Int):=by omega
     have HRN:=zH (HRI.out.next (by omega) (by omega));go_wp2_with fail
     go_roundw;case rel=>exact⟨r+1,O,by omega,by go_num,HRN,HB,HV⟩
     case measure=>simp[intOf];omega
    have HFN:=zH hfn;obtain⟨gf,hgf⟩:∃z,G[f]? =some z:=⟨_,Xc (by rw[HGL.out];exact hfn)⟩
    have HGF:=zH hgf;clear hgf;go_wp2_with fail
    go_loopw [13,14,15] (fun ov bv i wr=>∃(g:Nat) (own bey:Int),g≤n∧i= .int .i64 g∧ov= .int .i64 own∧bv= .int .i64 bey∧Hid (jN EL n (jd m maps) f g=own)∧Hid (jP EL n (oN O) f g=bey)∧Hid (zY wr gB O)∧Hid (Below w6.heap.size w6 wr)) (fun _ _ i _=>n - (intOf i).toNat)
    case atStart=>exact⟨0,0,0,Xl _,rfl,rfl,rfl,zH rfl,zH rfl,HB,HV⟩
    case round=>
     clear HB HV;obtain⟨g,own,bey,hg,rfl,rfl,rfl,HOE,HBY,HB,HV⟩:=hrel;have HX:=zH (H61.out.trans (HV.out.mono H61.out.size));have H5:=zH (H65.out.trans (HV.out.mono H65.out.size));have HQ:=zH (HQ6.out.keep HV.out);obtain⟨q0,q1,q2,q3,q4,q5,q6⟩:=HBX.out.keep HX.out HZ.out;have ho0:0≤own:=by rw[←HOE.out];exact q4s (YK HM.out)
     have ho1:own≤g*32088:=by rw[←HOE.out];exact qax (Vx HM.out HMZ.out) (by omega)
     have hb0:0≤bey:=by rw[←HBY.out];exact q56
     have hb1:bey≤4800000*r+400000*f:=by rw[←HBY.out];exact qbu HED.out (by omega) (fun t _=>HRI.out.top t)
     by_cases hgn:g<n;rotate_left
     ·have hgi:¬(g:Int)<(n:Int):=by omega
      obtain rfl:g=n:=by omega
      have c0:=HB.out.at_ (t:=f) (by rw[HRI.out.len];exact hfn);have f0:=HB.out.free f;have HST:Hid (Zf EL g (jd m maps) r (f+1) (O.set f (own+bey))):=zH (by
       have:=HRI.out.step HED.out hn12 (YK HM.out) (Vx HM.out HMZ.out) hfn
       rwa [HOE.out,HBY.out]at this)
      go_wp2_with fail
      go_roundw;case rel=>exact⟨f+1,O.set f (own+bey),by omega,by go_num,HST,zH (HB.out.set (own+bey)),zH (HV.out.setCell (p:=⟨gB,f,none⟩) HGB.out _)⟩
      case measure=>simp[intOf];omega
     have HGN:=zH hgn;have hgm:g<m.methods.length:=by rw[HN.out];exact hgn
     obtain⟨ad,hx,eA,hab,hin,hc⟩:=jJ HI.out hgm;have c5:=(HX.out.cell (p:=zc (ad.add (g*8)) 5) (by show(ad.add _).block<_;rw[zp];exact hab)).trans hc.c5;have hmn:zu m (g:Int)=m.methods[g]:=by unfold zu;rw[Xe,Xc hgm];rfl
     have hxd:=(HM.out.method (Xd hgm)).fits.d0;have hxd1:=(HM.out.method (Xd hgm)).fits.d1;generalize m.methods[g]=x at*
     clear q0 q1 q2 q3 q4 q5 q6;obtain⟨A0,Ab,A2,A3,A4,k0,k1,k2,k3,k4⟩:=h;dsimp only at eA hle hcap;subst eA;obtain⟨q0,q1,q2,q3,q4,q5,q6⟩:=HBX.out.keep HX.out HZ.out;have HSM:=zH (qX RowAt.keeps HM0.out HX.out);obtain⟨FR,hFR⟩:∃z,qO m maps (g:Int)=z:=⟨_,rfl⟩
     have HFR:=zH hFR;have hF0:0≤FR:=by rw[←hFR];exact q08
     have hF1:FR≤4011:=by rw[←hFR];exact q25 HM.out HMZ.out
     have hgE:g<EL.length:=by rw[HELN.out];exact hgn
     obtain⟨adE,rfl,habE,A1,cL,r0,hsr⟩:=HE5.out.row.at_ hgE;obtain⟨L,hL⟩:∃z,EL[g]=z:=⟨_,rfl⟩
     rw[hL]at r0 hsr;rw[Xq]at r0;have HLE:Hid (EL[g]?.getD []=L):=zH (by rw[Xc hgE,hL];rfl);have HRO:=zH r0;have HLR:=zH hsr;have hrl:=hsr.le;have hrc:=hsr.cap;obtain⟨gg,hgg⟩:∃z,G[g]? =some z:=⟨_,Xc (by rw[HGL.out];exact hgn)⟩
     have e1:=HQ.out.row_get HGF.out;have e3:=HQ.out.row_get hgg;have e2:=HQ.out.bit_get HGF.out hgn;have e4:=HQ.out.bit_get hgg hfn;rw[HWB.out f g hfn hgn]at e2;rw[HWB.out g f hgn hfn]at e4;clear hFR hL r0 hsr hgE hc hin;by_cases hgf:g=f
     ·have hne:((g:Int) !=(f:Int))=false:=bne_eq_false_iff_eq.mpr (by omega);have HPT:Hid (jG EL n f g=true):=zH (JV.mpr (.inl hgf));clear hgf;obtain⟨b3,hb3⟩:∃z,qM EL n g g=z:=⟨_,rfl⟩
      have e5:=HQ.out.bit_get hgg HGN.out;rw[HWB.out g g HGN.out HGN.out,hb3]at e5;rw[←HEQ.out,←HN.out]at hb3;cases b3
      ·exact q7h
      ·exact q7g
     have hne:((g:Int) !=(f:Int))=true:=bne_iff_ne.mpr (by omega);obtain⟨b1,hb1'⟩:∃z,qM EL n f g=z:=⟨_,rfl⟩
     obtain⟨b2,hb2'⟩:∃z,qM EL n g f=z:=⟨_,rfl⟩
     rw[hb1']at e2;rw[hb2']at e4;have hpt:jG EL n f g=(b1&& b2):=by unfold jG;rw[Xf hgf,Bool.false_or,hb1',hb2']
     clear hb1' hb2' hgf;cases b1
     ·exact q7f
     cases b2
     ·exact q7f
     have HPT:Hid (jG EL n f g=true):=zH hpt;clear hpt;obtain⟨b3,hb3⟩:∃z,qM EL n g g=z:=⟨_,rfl⟩
     have e5:=HQ.out.bit_get hgg HGN.out;rw[HWB.out g g HGN.out HGN.out,hb3]at e5;rw[←HEQ.out,←HN.out]at hb3;cases b3
     ·exact q7h
     ·exact q7g
end Go.Proofs.YtcmiljnbmgkdnaaGreat
