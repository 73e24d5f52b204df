import Derived.Test.YtdbfllajopcccaaGreatFA40
import Derived.Test.YtdbfllajopcccaaGreatFA39
import Derived.Test.YtdbfllajopcccaaGreatFA36
namespace Go.Proofs.YtdbfllajopcccaaGreat
set_option maxRecDepth 100000
set_option linter.unusedVariables false
set_option linter.unusedSimpArgs false
open Go.ChangeShapes Go.WideShapes Go.ChangeAt Go.RowKit
theorem qnv{m:za}{h:zl}{f pc:Int}{st:List (Int×Int)}{A:Option Addr}{cap n:Nat}{w0 w:World}{r:ZZ}(HI:Hid (zp w0 w0.heap.size h m))(HX:Hid (Below w0.heap.size w0 w))(HM:Hid (zP m))(HN:Hid (st.length=n))(HS:Hid (zd zi 2 w w.heap.size A cap st))(hs:n≤1000)(HR:Hid (zK m f pc st=r)):
  Calls Tryz.prog 16 #[zr h m,.int .i64 f,.int .i64 pc,.slice A n cap] w (Zf r w):=by
 obtain rfl:=HN.out;have H:=q4n m f pc st A cap h w (HI.out.now HX.out) HM.out HS.out (by omega);rw[HR.out]at H;exact H
set_option maxHeartbeats 12800000 in
theorem qeb(m:za)(h:zl)(w:World)(H:zp w w.heap.size h m):
  Calls Tryz.prog 7 #[zr h m] w fun e w'=>e= .returned (.bool true)∧Below w.heap.size w w':=by
 obtain⟨i0,hi,hz0,hz1,hz2⟩:=jg q53;have HW:=zH (ko (w:=w) (h:=h) (m:=m));have HBX:=zH (qf w h m);have HZ:Hid (w.heap.size<(w.alloc (zq h m)).heap.size):=zH (by simp);have HI:=zH (H.now HW.out);clear H;obtain⟨A0,Ab,A2,A3,A4,k0,k1,k2,k3,k4⟩:=h;go_enter Tryz.func7,Tryz.ntmps7;go_upto_region 1 with fail
 generalize w.alloc (zq ⟨A0,Ab,A2,A3,A4,k0,k1,k2,k3,k4⟩ m)=w1 at*
 obtain⟨q0,q1,q2,q3,q4,q5,q6⟩:=HBX.out;have HX:Hid (Below w1.heap.size w1 w1):=zH (zb _ _);go_upto_region 2 with(go_at_call 8;(with_reducible refine(VW HI HX).mono ?_);rintro e w2 ⟨Al,nl,cl,ok,rfl,hb,hyes⟩;have HX2:=zH (HX.out.trans (hb.mono HX.out.size));have HYES:=zH hyes;clear hb hyes)
 clear q0 q1 q2 q3 q4 q5 q6;obtain⟨q0,q1,q2,q3,q4,q5,q6⟩:=HBX.out.keep HX2.out HZ.out;cases ok
 ·go_wp2_with(go_at_call 9;(with_reducible refine(kh _).mono ?_);rintro e w3 ⟨rfl,hb⟩;have HX3:=zH (HX2.out.trans (hb.mono HX2.out.size));clear hb)
  go_ret;exact⟨by first|rfl|simp,HW.out.trans (HX3.out.mono (Nat.le_of_lt HZ.out))⟩
 obtain⟨hs,l,hn,ht⟩:=HYES.out rfl;have HS:=zH hs;have HM:=zH (Qh hs);have HT:=zH ht;have HLL:Hid (l.length=nl):=zH (by rw[ht.2.2.1,hn]);clear hs hn ht HYES;go_upto_region 5 with(go_at_call 18;(with_reducible refine(qbs HI HX2 HS HT HLL).mono ?_);rintro e w3 ⟨hx,x,fine,rfl,hb,hix,hno,hyes⟩;have HX3:=zH (HX2.out.trans (hb.mono HX2.out.size));have HT3:=zH (HT.out.now hb);have HIX0:=zH hix;have HNO:=zH hno;have HYES:=zH hyes;clear hb hix hno hyes)
 obtain⟨B0,B1,B2,B3,B4,j0,j1,j2,j3,j4⟩:=hx;have HB4:=zH (ko (w:=w3) (h:=⟨B0,B1,B2,B3,B4,j0,j1,j2,j3,j4⟩) (m:=x));have HBXX:=zH (qf w3 ⟨B0,B1,B2,B3,B4,j0,j1,j2,j3,j4⟩ x);have HZX:Hid (w3.heap.size<(w3.alloc (zq ⟨B0,B1,B2,B3,B4,j0,j1,j2,j3,j4⟩ x)).heap.size):=zH (by simp);have HIX:=zH (HIX0.out.now HB4.out);have HX4:=zH (HX3.out.trans (HB4.out.mono HX3.out.size));have HT4:=zH (HT3.out.now HB4.out);clear HIX0 q0 q1 q2 q3 q4 q5 q6;generalize w3.alloc (zq ⟨B0,B1,B2,B3,B4,j0,j1,j2,j3,j4⟩ x)=w4 at*
 have HXX:Hid (Below w4.heap.size w4 w4):=zH (zb _ _);cases fine
 ·go_wp2_with(go_at_call 9;(with_reducible refine(kh _).mono ?_);rintro e w5 ⟨rfl,hb⟩;have HX5:=zH (HX4.out.trans (hb.mono HX4.out.size));clear hb)
  go_ret;exact⟨by first|rfl|simp,HW.out.trans (HX5.out.mono (Nat.le_of_lt HZ.out))⟩
 have HF:=zH (HYES.out rfl);clear HYES HNO;have hlx:=Qz HF.out.alike;have hne:((x.methods.length:Int) !=(m.methods.length:Int))=false:=bne_eq_false_iff_eq.mpr (by omega);have HLX:=zH hlx;have HMX:Hid (zP x):=zH (YP HF.out.alike HM.out HF.out.phi);have hml:m.methods.length≤12:=by have:=HM.out.fits.ml;omega
 have hmle:=HIX.out.methods.le;have hmcap:=HIX.out.methods.cap;have hmle2:=HI.out.methods.le;have hmcap2:=HI.out.methods.cap;clear hlx;obtain⟨q0,q1,q2,q3,q4,q5,q6⟩:=HBX.out.keep HX4.out HZ.out;obtain⟨p0,p1,p2,p3,p4,p5,p6⟩:=HBXX.out;go_upto_region 9 with fail
 clear hne p0 p1 p2 p3 p4 p5 p6;have HEL:Hid (jm m=jm m∧(jm m).length=m.methods.length):=zH ⟨rfl,q05 m⟩;have HELN:Hid ((jm m).length=m.methods.length):=zH (q05 m);go_upto_region 10 with(first
  |(go_at_call 21;(with_reducible refine(qkv HI HX4 HS HEL).mono ?_);rintro e w5 ⟨A5,c5,rfl,hs,hb⟩;have HX5:=zH (HX4.out.trans (hb.mono HX4.out.size));have HXX5:=zH (HXX.out.trans hb);have HE5:=zH hs;clear hb hs)
  |(go_at_call 20;(with_reducible refine(qbk HE5 HELN (by omega)).mono ?_);rintro e w6 ⟨gC,GC,WC,rfl,hb,hq,hg,hw,_,_⟩;have HX6:=zH (HX5.out.trans (hb.mono HX5.out.size));have HXX6:=zH (HXX5.out.trans (hb.mono HXX5.out.size));have HQ6:=zH hq;have HGL:=zH hg;have HWY:=zH hw;clear hb hq hg hw))
 clear q0 q1 q2 q3 q4 q5 q6 HX5 HXX5;have HWB:Hid (∀i,i<m.methods.length→qp WC i i=jX (jm m) m.methods.length i i):=zH (fun i hi=>by
  have h1:=HWY.out.iff hi hi;rw[←Vk]at h1;exact Bool.eq_iff_iff.mpr h1)
 go_wp2_with fail
 go_loopw [8] (fun i wr=>∃k:Nat,k≤x.methods.length∧i= .int .i64 k∧Hid (Below w4.heap.size w4 wr)∧Hid (qK wr gC m.methods.length GC WC)) (fun i _=>x.methods.length - (intOf i).toNat)
 case atStart=>exact⟨0,Nat.zero_le _,rfl,HXX6,HQ6⟩
 case round=>
  clear HXX6 HQ6 HX6;obtain⟨k,hk,rfl,HXR,HQR⟩:=hrel;have HX6:=zH (HX4.out.trans (HXR.out.mono HX4.out.size));obtain⟨p0,p1,p2,p3,p4,p5,p6⟩:=HBXX.out.keep HXR.out HZX.out;by_cases hlt:k<x.methods.length;rotate_left
  ·have hki:¬(k:Int)<(x.methods.length:Int):=by omega
   go_wp2_with(go_at_call 9;(with_reducible refine(kh _).mono ?_);rintro e w7 ⟨rfl,hb⟩;have HX7:=zH (HX6.out.trans (hb.mono HX6.out.size));clear hb)
   go_ret;exact⟨by first|rfl|simp,HW.out.trans (HX7.out.mono (Nat.le_of_lt HZ.out))⟩
  have hki:(k:Int)<(x.methods.length:Int):=by omega
  have hkm:k<m.methods.length:=by have:=HLX.out;omega
  have hkl:k<l.length:=by rw[HT4.out.2.2.1];exact hkm
  have hknl:k<nl:=by rw[←HLL.out];exact hkl
  obtain⟨adx,hmx,eA,habx,hinx,hcx⟩:=jB HIX.out hlt;obtain⟨a0x,a1x,a4x,a7x,k0x,k1x,k4x,k7x⟩:=hmx;obtain⟨g,hg⟩:∃g,x.methods[k]=g:=⟨_,rfl⟩
  rw[hg]at hinx hcx;have hgm:zm x (k:Int)=g:=by unfold zm;rw[Int.toNat_natCast,List.getElem?_eq_getElem hlt,hg];rfl
  have hgx:g ∈x.methods:=by rw[←hg];exact List.getElem_mem hlt
  have HGM:=zH hgm;have HGX:=zH hgx;have hcl:=(HMX.out.method hgx).fits.cl;obtain⟨S,hS⟩:∃S,l[k]=S:=⟨_,rfl⟩
  obtain⟨adl,rfl,habl,A1,c1,r0,hsr⟩:=HT4.out.1.row.at_ hkl;rw[hS]at r0 hsr;rw[Nat.mul_one]at r0;have hSg:l[k]?.getD []=S:=by rw[List.getElem?_eq_getElem hkl,hS];rfl
  have HSG:=zH hSg;have hfo:=HT4.out.2.2.2 k S (by rw[List.getElem?_eq_getElem hkl,hS]);have hsz8:=hfo.grow.small;have hSl:S.length=g.code.length:=by rw[hfo.grow.len,←YY HF.out.alike,hgm]
  obtain⟨nc,hnc⟩:∃z,g.code.length=z:=⟨_,rfl⟩
  have HNC:=zH hnc;rw[hnc]at hSl hcl;have HSL:=zH hSl;have HS8:=zH hsz8;have HR0:=zH r0;have HSR:=zH hsr;have HAB:Hid (adl.block<w4.heap.size∧adx.block<w4.heap.size):=zH ⟨habl,habx⟩;have s1:=hsr.le;have s2:=hsr.cap;rw[hSl]at s1;have cle:=hinx.code.le;have ccap:=hinx.code.cap;dsimp only at cle ccap;have HCX:=zH hcx;have HIN:=zH hinx.code;clear p0 p1 p2 p3 p4 p5 p6 hg hgm hgx hS hSg hfo hsz8 hSl hnc r0 hsr hinx;dsimp only at eA hmle hmcap;subst eA;obtain⟨p0,p1,p2,p3,p4,p5,p6⟩:=HBXX.out.keep HXR.out HZX.out;have c4:=(HXR.out.cell (p:=zc (adx.add (k*8)) 4) (by show(adx.add _).block<_;rw[zt];exact HAB.out.2)).trans HCX.out.c4;dsimp only at c4;rw[HNC.out]at c4 cle;obtain⟨EP,hEP⟩:∃z,Yv m k S nc=z:=⟨_,rfl⟩
  have HEPL:Hid (EP.length=nc):=zH (by rw[←hEP];unfold Yv;rw[List.length_map,List.length_range]);have HEP:=zH hEP;have HEPA:Hid (∀pc,pc<nc→EP[pc]? =some (if(zv S (pc:Int)).seen=true then qh m k S pc else [])):=zH (fun pc hpc=>by rw[←hEP];exact q93 hpc);clear hEP habl habx hcx;have hzr:=HXR.out.size;go_upto_region 14 with(at_make;refine wpList_make_full _ rfl _ _ 64 rfl wr.heap.size 26 i0 (.slice none 0 0) 1 Tryz.underlying64 hi hz0 hz1 .i64 .i64 _ _ nc rfl rfl rfl rfl (by rw[hz2];omega) (by unfold maxLen;omega) (zn _) ?_;intro w7 hown hgrow;have HO7:=zH hown;have HB7:=zH ((zb wr.heap.size wr).grown hgrow (zn _) (fun k hk=>by cases hk));clear hown hgrow)
  have HG7:Hid (vI w7 wr.heap.size EP nc 0 (List.replicate nc (.slice none 0 0))):=zH (by
   have h1:=YV HO7.out;rw[JF (v:= .slice none 0 0) rfl]at h1;exact⟨h1,List.length_replicate ..,fun i L hi _=>by omega,fun i _ hi=>by rw[List.getElem?_replicate,if_pos hi]⟩)
  clear HO7 p0 p1 p2 p3 p4 p5 p6 c4;obtain⟨gE,hgE⟩:∃z,wr.heap.size=z:=⟨_,rfl⟩
  rw[hgE]at hzr HG7 HB7;have HGE:=zH hgE;try simp only[hgE]
  clear hgE;go_wp2_with fail
  go_loopw [10] (fun i wi=>∃(s:Nat) (vs:List Value),s≤nc∧i= .int .i64 s∧Hid (vI wi gE EP nc s vs)∧Hid (Below gE wr wi)) (fun i _=>nc - (intOf i).toNat)
  case atStart=>exact⟨0,_,Nat.zero_le _,rfl,HG7,HB7⟩
  case round=>
   clear HG7 HB7;obtain⟨s,vs,hs,rfl,HG,HV⟩:=hrel;have HXi:=zH (HXR.out.trans (HV.out.mono hzr));have HX6i:=zH (HX4.out.trans (HXi.out.mono HX4.out.size));by_cases hsl:s<nc;rotate_left
   ·have hsi:¬(s:Int)<(nc:Int):=by omega
    have HER:Hid (zd (qb zo 1) 1 _ _ (some ⟨gE,0,none⟩) nc EP):=zH (HG.out.slc HEPL.out (by omega) (by omega));go_upto_region 20 with(go_at_call 20;(with_reducible refine(qbk HER HEPL (by omega)).mono ?_);rintro e w9 ⟨gO,GO,WO,rfl,hb,hq,hg,hw,_,_⟩;have HV9:=zH (HV.out.trans (hb.mono (by rw[←HGE.out];exact HV.out.size)));have HQ9:=zH hq;have HGO:=zH hg;have HWO:=zH hw;clear hb hq hg hw)
    have HX9:=zH (HXR.out.trans (HV9.out.mono hzr));have HQC9:=zH (HQR.out.keep (by rw[HGE.out];exact HV9.out));have HWB9:Hid (∀i,i<nc→qp WO i i=jX EP nc i i):=zH (fun i hi=>by
     have h1:=HWO.out.iff hi hi;rw[←Vk]at h1;exact Bool.eq_iff_iff.mpr h1)
    have HY0:Hid (Below w9.heap.size w9 w9):=zH (zb _ _);go_wp2_with fail
    go_loopw [12] (fun i wj=>∃t:Nat,t≤nc∧i= .int .i64 t∧Hid (Below w9.heap.size w9 wj)) (fun i _=>nc - (intOf i).toNat)
    case atStart=>exact⟨0,Nat.zero_le _,rfl,HY0⟩
    case round=>
     clear HY0;obtain⟨t,htl,rfl,HY⟩:=hrel;have HXj:=zH (HX9.out.trans (HY.out.mono HX9.out.size));have HQC:=zH (HQC9.out.keep HY.out);have HQO:=zH (HQ9.out.keep HY.out);obtain⟨p0,p1,p2,p3,p4,p5,p6⟩:=HBXX.out.keep HXj.out HZX.out;by_cases htn:t<nc;rotate_left
     ·have hti:¬(t:Int)<(nc:Int):=by omega
      obtain⟨gk,hgk⟩:∃z,GC[k]? =some z:=⟨_,List.getElem?_eq_getElem (by rw[HGL.out];exact hkm)⟩
      have e1:=HQC.out.row_get hgk;have e2:=HQC.out.bit_get hgk hkm;rw[HWB.out k hkm]at e2;obtain⟨b,hb⟩:∃z,jX (jm m) m.methods.length k k=z:=⟨_,rfl⟩
      rw[hb]at e2;have HRG:Hid (b=true→g.pot=0):=zH (fun e=>by rw[←HGM.out];exact HF.out.ring k hkm (by rw[hb,e]));have c6:=(HXj.out.cell (p:=zc (adx.add (k*8)) 6) (by show(adx.add _).block<_;rw[zt];exact HAB.out.2)).trans HCX.out.c6;have HXk:=zH HXj.out;clear hgk hb;cases b
      ·go_wp2_with fail
       go_roundw;case rel=>exact⟨k+1,by omega,by go_num,HXk,HQC⟩
       case measure=>simp[intOf];omega
      ·have hp0:g.pot=0:=HRG.out rfl;rw[hp0]at c6;clear hp0;go_wp2_with fail
       go_roundw;case rel=>exact⟨k+1,by omega,by go_num,HXk,HQC⟩
       case measure=>simp[intOf];omega
     have hti:(t:Int)<(nc:Int):=by omega
     obtain⟨gt,hgt⟩:∃z,GO[t]? =some z:=⟨_,List.getElem?_eq_getElem (by rw[HGO.out];exact htn)⟩
     have e1:=HQO.out.row_get hgt;have e2:=HQO.out.bit_get hgt htn;rw[HWB9.out t htn]at e2;obtain⟨b,hb⟩:∃z,jX EP nc t t=z:=⟨_,rfl⟩
     rw[hb]at e2;have HBT:=zH hb;clear hb;cases b
     ·go_upto_region 23 with fail
      go_quiet (fail)
      go_wp2_with fail
      go_roundw;case rel=>exact⟨t+1,by omega,by go_num,zH (jf HY.out _)⟩
      case measure=>simp[intOf];omega
     have htc:t<g.code.length:=by rw[HNC.out];exact htn
     obtain⟨ac,eac,hac,i0',i1',i2'⟩:=HIN.out.row.at_ htc;try dsimp only at eac
     subst eac;obtain⟨ins,hins⟩:∃z,g.code[t]=z:=⟨_,rfl⟩
     rw[hins]at i0' i1' i2';obtain⟨op,ia,ib⟩:=ins;obtain⟨v,hv⟩:∃z,jx x op ia ib=z:=⟨_,rfl⟩
     have HVV:=zH hv;have HIC:Hid ((op,ia,ib) ∈g.code):=zH (by rw[←hins];exact List.getElem_mem htc);have hcost:qs x g t=v:=by
      unfold qs;rw[List.getElem?_eq_getElem htc,hins];exact hv
     have hle:¬v>0:=by
      have hcy:=HF.out.cycle (i:=t) (f:=k) (n:=nc) hlt (fun pc=>by
       rw[HGM.out];unfold qs;cases hq:g.code[pc]? with
       |none=>exact Int.le_refl _
       |some i=>exact(q1i HMX.out HGX.out (op:=i.1) (a:=i.2.1) (b:=i.2.2) (List.mem_of_getElem? hq)).1) (by rw[HGM.out,HNC.out]) htn (by rw[HSG.out,HEP.out];exact HBT.out)
      rw[HGM.out,hcost]at hcy;exact hcy
     have HGT:=zH hgt;have HIS:Hid (w4.cell? (ac.add (t*3))=some (.int .i64 op)∧w4.cell? (zc (ac.add (t*3)) 1)=some (.int .i64 ia)∧w4.cell? (zc (ac.add (t*3)) 2)=some (.int .i64 ib)):=zH ⟨i0',i1',i2'⟩;have HAC:Hid (ac.block<w4.heap.size):=zH hac;have HKP:Hid (∀W,Below w9.heap.size w9 W→(fun w'=>(w'.cell? ⟨w3.heap.size,0,none⟩=some (.slice B0 x.classes.length j0)∧w'.cell? ⟨w3.heap.size,1,none⟩=some (.slice B1 x.statics.length j1)∧w'.cell? ⟨w3.heap.size,2,none⟩=some (.slice B2 x.ints.length j2)∧w'.cell? ⟨w3.heap.size,3,none⟩=some (.slice (some adx) x.methods.length j3)∧w'.cell? ⟨w3.heap.size,4,none⟩=some (.slice B4 x.entries.length j4)∧w'.cell? ⟨w3.heap.size,5,none⟩=some (.int .i64 x.stack)∧w'.cell? ⟨w3.heap.size,6,none⟩=some (.int .i64 x.heap))∧w'.cell? (zc (adx.add (k*8)) 4)=some (.slice (some ac) nc k4x)∧(w'.cell? (ac.add (t*3))=some (.int .i64 op)∧w'.cell? (zc (ac.add (t*3)) 1)=some (.int .i64 ia)∧w'.cell? (zc (ac.add (t*3)) 2)=some (.int .i64 ib))∧w'.cell? ⟨gO,t,none⟩=some (.slice (some ⟨gt,0,none⟩) nc nc)∧w'.cell? ⟨gt,t,none⟩=some (.bool true)) W):=zH (fun W hW=>by
      have hXW:=HX9.out.trans (hW.mono HX9.out.size);obtain⟨d0,d1,d2,d3,d4,d5,d6⟩:=HBXX.out.keep hXW HZX.out;have hq:=HQ9.out.keep hW;have hbit:=hq.bit_get HGT.out htn;rw[HWB9.out t htn,HBT.out]at hbit;have hc4:=(hXW.cell (p:=zc (adx.add (k*8)) 4) (by show(adx.add _).block<_;rw[zt];exact HAB.out.2)).trans HCX.out.c4;dsimp only at hc4;rw[HNC.out]at hc4;exact⟨⟨d0,d1,d2,d3,d4,d5,d6⟩,hc4,⟨(hXW.cell (p:=ac.add (t*3)) (by rw[zt];exact HAC.out)).trans HIS.out.1,(hXW.cell (p:=zc (ac.add (t*3)) 1) (by show(ac.add _).block<_;rw[zt];exact HAC.out)).trans HIS.out.2.1,(hXW.cell (p:=zc (ac.add (t*3)) 2) (by show(ac.add _).block<_;rw[zt];exact HAC.out)).trans HIS.out.2.2⟩,hq.row_get HGT.out,hbit⟩)
     have HYD:Hid (Below w9.heap.size w9 wr.drew):=zH HY.out.drew;have HXjD:Hid (Below w4.heap.size w4 wr.drew):=zH HXj.out.drew;clear hgt i0' i1' i2' hac hins hv hcost;go_upto_region 23 with fail
     clear p0 p1 p2 p3 p4 p5 p6 e1 e2;go_region_held3 (fun w'=>(w'.cell? ⟨w3.heap.size,0,none⟩=some (.slice B0 x.classes.length j0)∧w'.cell? ⟨w3.heap.size,1,none⟩=some (.slice B1 x.statics.length j1)∧w'.cell? ⟨w3.heap.size,2,none⟩=some (.slice B2 x.ints.length j2)∧w'.cell? ⟨w3.heap.size,3,none⟩=some (.slice (some adx) x.methods.length j3)∧w'.cell? ⟨w3.heap.size,4,none⟩=some (.slice B4 x.entries.length j4)∧w'.cell? ⟨w3.heap.size,5,none⟩=some (.int .i64 x.stack)∧w'.cell? ⟨w3.heap.size,6,none⟩=some (.int .i64 x.heap))∧w'.cell? (zc (adx.add (k*8)) 4)=some (.slice (some ac) nc k4x)∧(w'.cell? (ac.add (t*3))=some (.int .i64 op)∧w'.cell? (zc (ac.add (t*3)) 1)=some (.int .i64 ia)∧w'.cell? (zc (ac.add (t*3)) 2)=some (.int .i64 ib))∧w'.cell? ⟨gO,t,none⟩=some (.slice (some ⟨gt,0,none⟩) nc nc)∧w'.cell? ⟨gt,t,none⟩=some (.bool true)) (first|exact HKP.out _ HYD.out|exact HKP.out _ HYC.out) (first
      |(go_at_call 13;(with_reducible refine(YU HIX HXjD HMX HGX HIC HVV).mono ?_);rintro e wc ⟨rfl,hb⟩;have HYC:=zH (HYD.out.trans (hb.mono HYD.out.size));clear hb))
     rename_i hHeld;clear hHeld;go_wp2_with fail
     go_roundw;case rel=>exact⟨t+1,by omega,by go_num,HYC⟩
     case measure=>simp[intOf];omega
   have hsi:(s:Int)<(nc:Int):=by omega
   obtain⟨q0,q1,q2,q3,q4,q5,q6⟩:=HBX.out.keep HX6i.out HZ.out;have r0:=(HXi.out.cell (p:=adl.add k) (by rw[zt];exact HAB.out.1)).trans HR0.out;rw[HSL.out]at r0;have hsS:s<S.length:=by rw[HSL.out];exact hsl
   obtain⟨ads,rfl,habs,t0,At,ct,t1,ht⟩:=HSR.out.row.at_ hsS;have hse:zv S (s:Int)=S[s]:=QC hsS;have hst8:=HS8.out S[s] (List.getElem_mem hsS);have hep:=HEPA.out s hsl;have hnp:qh m k S s=(zK m (k:Int) (s:Int) S[s].stack).next:=by unfold qh;rw[hse]
   rw[hse,hnp]at hep;generalize S[s]=sh at*
   obtain⟨se,st⟩:=sh;dsimp only at t0 t1 ht hst8 hep;have HEPS:=zH hep;have HT0:=zH t1;have HABS:Hid (ads.block<w4.heap.size):=zH habs;have HTY:=zH ht;have t0:=(HXi.out.cell (p:=ads.add (s*2)) (by rw[zt];exact habs)).trans t0;clear t1 ht hep hnp hse habs hsS;cases se
   ·have HGS:Hid (vI _ gE EP nc (s+1) vs):=zH (HG.out.skip hsl (by have:=HEPS.out;simpa using this));go_wp2_with fail
    go_roundw;case rel=>exact⟨s+1,vs,by omega,by go_num,HGS,HV⟩
    case measure=>simp[intOf];omega
   obtain⟨rr,hrr⟩:∃z,zK m (k:Int) (s:Int) st=z:=⟨_,rfl⟩
   have HRR:=zH hrr;have HEL2:Hid (EP[s]? =some rr.next):=zH (by have:=HEPS.out;rw[hrr]at this;simpa using this);have HSTL:Hid (st.length=st.length):=zH rfl;have HKP:Hid (∀W,Below w4.heap.size w4 W→(fun w'=>(w'.cell? ⟨w.heap.size,0,none⟩=some (.slice A0 m.classes.length k0)∧w'.cell? ⟨w.heap.size,1,none⟩=some (.slice Ab m.statics.length k1)∧w'.cell? ⟨w.heap.size,2,none⟩=some (.slice A2 m.ints.length k2)∧w'.cell? ⟨w.heap.size,3,none⟩=some (.slice A3 m.methods.length k3)∧w'.cell? ⟨w.heap.size,4,none⟩=some (.slice A4 m.entries.length k4)∧w'.cell? ⟨w.heap.size,5,none⟩=some (.int .i64 m.stack)∧w'.cell? ⟨w.heap.size,6,none⟩=some (.int .i64 m.heap))∧w'.cell? (adl.add k)=some (.slice (some ads) nc c1)∧w'.cell? (zc (ads.add (s*2)) 1)=some (.slice At st.length ct)) W):=zH (fun W hW=>by
    obtain⟨d0,d1,d2,d3,d4,d5,d6⟩:=HBX.out.keep (HX4.out.trans (hW.mono HX4.out.size)) HZ.out;have hr0:=(hW.cell (p:=adl.add k) (by rw[zt];exact HAB.out.1)).trans HR0.out;rw[HSL.out]at hr0;exact⟨⟨d0,d1,d2,d3,d4,d5,d6⟩,hr0,(hW.cell (p:=zc (ads.add (s*2)) 1) (by show(ads.add _).block<_;rw[zt];exact HABS.out)).trans HT0.out⟩)
   have HXiD:Hid (Below w4.heap.size w4 wr.drew):=zH HXi.out.drew;have HX6D:Hid (Below w1.heap.size w1 wr.drew):=zH HX6i.out.drew;have HTYD:Hid (zd zi 2 wr.drew wr.drew.heap.size At ct st):=zH (js zi.keeps HTY.out HXiD.out);have hgl:=zf.lt HG.out.blk;have HGD:Hid (vI wr.drew gE EP nc s vs):=zH (HG.out.keep (zb _ _).drew);clear hrr;go_upto_region 18 with fail
   clear r0 t0 q0 q1 q2 q3 q4 q5 q6;go_region_held3 (fun w'=>(w'.cell? ⟨w.heap.size,0,none⟩=some (.slice A0 m.classes.length k0)∧w'.cell? ⟨w.heap.size,1,none⟩=some (.slice Ab m.statics.length k1)∧w'.cell? ⟨w.heap.size,2,none⟩=some (.slice A2 m.ints.length k2)∧w'.cell? ⟨w.heap.size,3,none⟩=some (.slice A3 m.methods.length k3)∧w'.cell? ⟨w.heap.size,4,none⟩=some (.slice A4 m.entries.length k4)∧w'.cell? ⟨w.heap.size,5,none⟩=some (.int .i64 m.stack)∧w'.cell? ⟨w.heap.size,6,none⟩=some (.int .i64 m.heap))∧w'.cell? (adl.add k)=some (.slice (some ads) nc c1)∧w'.cell? (zc (ads.add (s*2)) 1)=some (.slice At st.length ct)) (first|exact HKP.out _ HXiD.out|exact HKP.out _ HX8.out|exact HKP.out _ (HX8.out.setCell (p:=⟨gE,s,none⟩) hzr _)) (first
    |(go_at_call 16;(with_reducible refine(qnv HI HX6D HM HSTL HTYD (by omega) HRR).mono ?_);rintro e w8 ⟨A5,c5,A6,c6,rfl,hs5,hs6,hb,hnew⟩;have HX8:=zH (HXiD.out.trans (hb.mono HXiD.out.size));have HV8:=zH (HV.out.drew.trans (hb.mono (by rw[←HGE.out];exact HV.out.drew.size)));have HG8:=zH (HGD.out.keep hb);have HN6:=zH hs6;have HA6:Hid (∀ad,A6=some ad→gE<ad.block):=zH (fun ad e=>Nat.lt_of_lt_of_le hgl (hnew ad e));obtain⟨v0,g0⟩:=HG8.out.cell hsl;have f0:=zf.free HG8.out.blk s;clear hs5 hs6 hb hnew))
   rename_i hHeld;clear hHeld;go_wp2_with fail
   go_roundw;case rel=>exact⟨s+1,_,by omega,by go_num,zH (HG8.out.put hsl HEL2.out HN6.out HA6.out),zH (HV8.out.setCell (p:=⟨gE,s,none⟩) (zn _) _)⟩
   case measure=>simp[intOf];omega
end Go.Proofs.YtdbfllajopcccaaGreat
