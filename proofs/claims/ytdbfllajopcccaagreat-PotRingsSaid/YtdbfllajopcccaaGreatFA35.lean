import Derived.Test.YtdbfllajopcccaaGreatFA34
import Derived.Test.YtdbfllajopcccaaGreatFA28
namespace Go.Proofs.YtdbfllajopcccaaGreat
set_option maxRecDepth 100000
set_option linter.unusedVariables false
set_option linter.unusedSimpArgs false
open Go.ChangeShapes Go.WideShapes Go.ChangeAt Go.RowKit
theorem qos:(Tryz.prog.info? 78).map (fun i=>(i.zero,i.size,i.bytes))=some (some (.agg #[.int .i64 0,.int .i64 0,.int .i64 0]),3,24):=by kernel_rfl
theorem qmk{m:za}{h:zl}{f pc:Int}{st L:List (Int×Int)}{NL:List Int}{er:Int}{A:Option Addr}{cap n:Nat}{w0 w:World}(HI:Hid (zp w0 w0.heap.size h m))(HX:Hid (Below w0.heap.size w0 w))(HM:Hid (zP m))(HN:Hid (st.length=n))(HS:Hid (zd zi 2 w w.heap.size A cap st))(hs:n≤4000)(HR:Hid (zK m f pc st=⟨L,NL,er⟩)):
  Calls Tryz.prog 58 #[zr h m,.int .i64 f,.int .i64 pc,.slice A n cap] w fun e w'=>∃A c A' c',e= .returned (.tuple #[.slice A L.length c,.slice A' NL.length c',.int .i64 er])∧zd zo 1 w' w'.heap.size A' c' NL∧(∀ad,A'=some ad→w.heap.size≤ad.block)∧Below w.heap.size w w':=by
 obtain rfl:=HN.out;have H:=qmj m f pc st A cap h w (HI.out.now HX.out) HM.out HS.out hs;rw[HR.out]at H;exact H.mono fun e w' ⟨A,c,A',c',h1,h2,h3,h4,h5,h6⟩=>⟨A,c,A',c',h1,h3,h5,h6⟩
theorem qm5{w:World}{B c:Nat}{A:Option Addr}{L:List Int}(h:zd zo 1 w B A c L):zz w B A (L.map (Value.int .i64)):=fun j u hu=>by
 rw[List.getElem?_map]at hu;cases hL:L[j]? with
 |none=>rw[hL]at hu;cases hu
 |some x=>
  rw[hL]at hu;cases hu;obtain⟨ad,e,hb,hc⟩:=h.row j x hL;exact⟨ad,e,hb,by have hc:w.cell? (ad.add (j*1))=_:=hc;rw[Nat.mul_one]at hc;exact hc⟩
theorem zz.mono'{w:World}{B C:Nat}{A:Option Addr}{xs:List Value}(h:zz w B A xs)(hB:B≤C):zz w C A xs:=fun j u hu=>by
 obtain⟨ad,e,hb,hc⟩:=h j u hu;exact⟨ad,e,Nat.lt_of_lt_of_le hb hB,hc⟩
theorem qnc(w:World)(x y z:Int):∀(j:Nat) (u:Value),[Value.int .i64 x,.int .i64 y,.int .i64 z][j]? =some u→(w.alloc (.cells #[.int .i64 x,.int .i64 y,.int .i64 z] 78)).cell? ((⟨w.heap.size,0,none⟩:Addr).add j)=some u:=fun j u hj=>by
 have hc:=qd w [.int .i64 x,.int .i64 y,.int .i64 z] 78;have e:(⟨w.heap.size,0,none⟩:Addr).add j=⟨w.heap.size,j,none⟩:=by unfold Addr.add;split<;>simp_all
 rw[e];exact hc j u hj
theorem qn8(l:List (Int×Int×Int))(t:Int×Int×Int):ZI (l++[t])=ZI l++Jl t:=by unfold ZI;simp
structure Jd(w1 wr:World)(v:Value)(L:List (Int×Int×Int))(B:Nat)(A:Option Addr)(NQ:List Int)(Ni:Nat)(op a b:Int):Prop where
 row:wr.ownsRow w1.heap.size 78 3 v L.length (ZI L)
 apart:QN v A
 next:zz wr B A (NQ.map (Value.int .i64))
 room:B≤wr.heap.size
 ins:zf wr Ni [.int .i64 op,.int .i64 a,.int .i64 b] 45
 low:Below w1.heap.size w1 wr
theorem Jd.keep{w1 wr w':World}{v:Value}{L:List (Int×Int×Int)}{B Ni:Nat}{A:Option Addr}{NQ:List Int}{op a b:Int}(h:Jd w1 wr v L B A NQ Ni op a b)(hb:Below wr.heap.size wr w'):Jd w1 w' v L B A NQ Ni op a b:=
 ⟨qG h.row hb (qi h.row),h.apart,(h.next.below_to hb h.room),Nat.le_trans h.room hb.size,h.ins.keep hb (zf.lt h.ins),h.low.trans (hb.mono h.low.size)⟩
theorem Jd.app{w1 wr w9:World}{v:Value}{L:List (Int×Int×Int)}{B Ni g9 c9 n:Nat}{A:Option Addr}{NQ:List Int}{op a b:Int}{t:Int×Int×Int}{o:Obj}(h:Jd w1 wr v L B A NQ Ni op a b)(hn:L.length=n)(hA:∀ad,A=some ad→ad.block<B)(hown:w9.ownsRow w1.heap.size 78 3 (.slice (some ⟨g9,0,none⟩) (n+1) c9) (n+1) (ZI L++Jl t))(hgrow:(wr.alloc o).grownBy w9 v.ownBlock)(hor:v.ownBlock=some g9∨g9=(wr.alloc o).heap.size):
  Jd w1 w9 (.slice (some ⟨g9,0,none⟩) (n+1) c9) (L++[t]) B A NQ Ni op a b:=by
 subst hn;have h1:Below wr.heap.size wr (wr.alloc o):=(zb _ _).alloc (zn _) _;refine⟨by rw[qn8,List.length_append];exact hown,q1l h.apart hA hor (by have:=h.room;simp;omega),q41 h.next h.room hgrow h.apart,Nat.le_trans (Nat.le_trans h.room h1.size) hgrow.size,?_,?_⟩
 ·exact qaz (h.ins.keep h1 (zf.lt h.ins)) hgrow (qde h.row h.ins (by decide))
 ·exact qA (h.low.trans (h1.mono h.low.size)) (qG h.row h1 (qi h.row)) (Nat.le_trans h.low.size h1.size) hgrow
set_option maxHeartbeats 12800000 in
theorem qa9(m:za)(l:List (List zu))(f:Nat)(x:ze)(A:Option Addr)(c:Nat)(h:zl)(w:World)(H:zp w w.heap.size h m)(hm:zP m)(hT:qM m w A c l)(hx:m.methods[f]? =some x):
  Calls Tryz.prog 31 #[zr h m,.slice A l.length c,.int .i64 f] w fun e w'=>∃v,e= .returned v∧w'.ownsRow w.heap.size 78 3 v (jw m l f).length (ZI (jw m l f))∧Below w.heap.size w w':=by
 obtain⟨hM,hMZ,hLL,hFD⟩:=hT;obtain⟨i0,hi,hz0,hz1,hz2⟩:=jg qos;have hfm:f<m.methods.length:=(List.getElem?_eq_some_iff.mp hx).1;have hfl:f<l.length:=by omega
 have hxe:m.methods[f]=x:=(List.getElem?_eq_some_iff.mp hx).2;have HW:=zH (ko (w:=w) (h:=h) (m:=m));have HBX:=zH (qf w h m);have HZ:Hid (w.heap.size<(w.alloc (zq h m)).heap.size):=zH (by simp);have HI:=zH (H.now HW.out);have HM:=zH hm;have hle:=H.methods.le;have hcap:=H.methods.cap;have hl1:=hM.le;have hl2:=hM.cap;have HM0:=zH (js RowAt.keeps hM HW.out);have hxm:x ∈m.methods:=List.mem_of_getElem? hx;have hxN:zm m (f:Int)=x:=by unfold zm;rw[Int.toNat_natCast,hx];rfl
 obtain⟨adM,rfl,habM,A1,c1,r0,hsr⟩:=HM0.out.row.at_ hfl;obtain⟨ad,hxx,eA,hab,hin,hcm⟩:=jB HI.out hfm;rw[hxe]at hin hcm;have hFS:=hFD f l[f] (List.getElem?_eq_getElem hfl);have hW0:jw m l f=vV m f x l[f] x.code.length:=by unfold jw;rw[hxN,List.getElem?_eq_getElem hfl];rfl
 rw[hW0];have hSl:l[f].length=x.code.length:=by rw[hFS.grow.len,hxN]
 obtain⟨S,hS⟩:∃S,l[f]=S:=⟨_,rfl⟩
 rw[hS]at hsr hFS hSl r0⊢
 replace r0:(w.alloc (zq h m)).cell? (adM.add f)=some (.slice A1 S.length c1):=by have:=r0;rw[Nat.mul_one]at this;exact this
 obtain⟨n,hn⟩:∃n,x.code.length=n:=⟨_,rfl⟩
 have hn64:n≤64:=by rw[←hn];exact(hm.method hxm).fits.cl
 have HXM:=zH hxm;have HGX:=zH hx;have HFS:=zH hFS;have HSR:=zH hsr;have HCN:=zH hn;have HSL:Hid (S.length=n):=zH (by rw[hSl,hn]);rw[hn];rw[HSL.out]at r0;obtain⟨A0,Ab,A2,A3,A4,k0,k1,k2,k3,k4⟩:=h;dsimp only at eA hle hcap;subst eA;obtain⟨b0,b1,b2,b3,b4,b5,b6,b7⟩:=hcm;have HIC:=zH hin.code;have hcc1:=hin.code.le;have hcc2:=hin.code.cap;obtain⟨xA0,xA1,xA4,xA7,kx0,kx1,kx4,kx7⟩:=hxx;dsimp only at b4 HIC hcc1 hcc2;rw[hn]at b4 hcc1;have HB4:=zH b4;have HAB:Hid (ad.block<(w.alloc (zq ⟨A0,Ab,A2,some ad,A4,k0,k1,k2,k3,k4⟩ m)).heap.size):=zH hab;have hfi:¬(l.length:Int)≤(f:Int):=by omega
 have hfj:(f:Int)<(l.length:Int):=by omega
 have hfk:(f:Int)<(m.methods.length:Int):=by omega
 have hS1:=hsr.le;have hS2:=hsr.cap;rw[HSL.out]at hS1;clear H hm hM hMZ hFD hx hxe hxm hxN hin b0 b1 b2 b3 b4 b5 b6 b7 hFS hsr hSl hS hn hab hLL hW0;go_enter Tryz.func31,Tryz.ntmps31;go_upto_region 1 with fail
 generalize w.alloc (zq ⟨A0,Ab,A2,some ad,A4,k0,k1,k2,k3,k4⟩ m)=w1 at*
 have HX0:Hid (Below w1.heap.size w1 w1):=zH (zb _ _);go_wp2_with fail
 go_loopw [7,25] (fun v i wr=>∃pc:Nat,pc≤n∧i= .int .i64 pc∧Hid (wr.ownsRow w1.heap.size 78 3 v (vV m f x S pc).length (ZI (vV m f x S pc)))∧Hid (Below w1.heap.size w1 wr)) (fun _ i _=>n - (intOf i).toNat)
 case atStart=>exact⟨0,Nat.zero_le _,rfl,zH (World.ownsRow_nil _ _ _ _),HX0⟩
 case round=>
  clear HX0 r0;obtain⟨pc,hpc,rfl,HO,HX⟩:=hrel;by_cases hpn:pc<n;rotate_left
  ·obtain rfl:pc=n:=by omega
   go_wp2_with fail
   go_ret;exact⟨_,rfl,jI HO.out HW.out.size,HW.out.trans (HX.out.mono HW.out.size)⟩
  have hpi:(pc:Int)<(n:Int):=by omega
  obtain⟨adS,eS,habS,u0,Ast,cst,u1,hu⟩:=HSR.out.row.at_ (show pc<S.length by rw[HSL.out];exact hpn);subst eS;have hNp:zv S (pc:Int)=S[pc]'(by rw[HSL.out];exact hpn):=QC (by rw[HSL.out];exact hpn)
  have hst1:(S[pc]'(by rw[HSL.out];exact hpn)).stack.length≤8:=HFS.out.grow.small _ (List.getElem_mem _);generalize S[pc]'(by rw[HSL.out];exact hpn)=s at*
  have HNP:=zH hNp;have HU:=zH hu;have HWS:Hid (vV m f x S (pc+1)=vV m f x S pc++jN m f x S pc):=zH rfl;have hwl:(vV m f x S pc).length≤2*pc:=q24 m f x S (fun p=>q1h m f S p) pc;obtain⟨WL,hWL⟩:∃WL,vV m f x S pc=WL:=⟨_,rfl⟩
  rw[hWL]at HO HWS hwl;have u0:=(HX.out.cell (p:=adS.add (pc*2)) (by rw[zt];exact habS)).trans u0;have u1:=(HX.out.cell (p:=zc (adS.add (pc*2)) 1) (by show(adS.add _).block<_;rw[zt];exact habS)).trans u1;have HC3:=zH (qd wr [.bool s.seen,.slice Ast s.stack.length cst] 52);have hA3:Below wr.heap.size wr (wr.alloc (.cells #[.bool s.seen,.slice Ast s.stack.length cst] 52)):=(zb _ _).alloc (zn _) _;have HX3:Hid (Below w1.heap.size w1 (wr.alloc (.cells #[.bool s.seen,.slice Ast s.stack.length cst] 52))):=zj HX hA3;have HO3:Hid ((wr.alloc (.cells #[.bool s.seen,.slice Ast s.stack.length cst] 52)).ownsRow w1.heap.size 78 3 u7 WL.length (ZI WL)):=zH (qG HO.out hA3 (qi HO.out));clear hu hNp hWL hA3 HO;go_upto_region 7 with fail
  generalize wr.alloc (.cells #[.bool s.seen,.slice Ast s.stack.length cst] 52)=w3 at*
  have d0:=HC3.out 0 _ rfl;have d1:=HC3.out 1 _ rfl;clear u0 u1;by_cases hse:s.seen=true;rotate_left
  ·have hse':s.seen=false:=by simpa using hse
   have HY:Hid (vV m f x S (pc+1)=WL):=zH (by rw[HWS.out];unfold jN;rw[HNP.out,if_neg hse,List.append_nil]);rw[hse']at d0;go_wp2_with fail
   go_roundw;case rel=>exact⟨pc+1,by omega,by go_num,by rw[HY.out];exact HO3,HX3⟩
   case measure=>simp[intOf];omega
  have hfd:=HFS.out.done pc (by rw[HSL.out];exact hpn) (by rw[HNP.out];exact hse);rw[HNP.out]at hfd;have HSE:=zH hse;rw[hse]at d0;obtain⟨q0,q1,q2,q3,q4,q5,q6⟩:=HBX.out.keep HX3.out HZ.out;obtain⟨⟨L,NL,er⟩,hrs⟩:∃r,zK m (f:Int) (pc:Int) s.stack=r:=⟨_,rfl⟩
  have hne:er=0:=by have:=hfd.1;rw[hrs]at this;exact this
  subst hne;have HRS:=zH hrs;have HNX:Hid (qh m f S pc=NL):=zH (by unfold qh;rw[HNP.out,hrs]);have HSD:Hid (zd zi 2 w3 w3.heap.size Ast cst s.stack):=zH (js zi.keeps HU.out HX3.out);have hst4:s.stack.length≤4000:=by omega
  clear hrs hse hfd;go_upto_region 9 with(go_at_call 58;(with_reducible refine(qmk HI HX3 HM (zH rfl) HSD hst4 HRS).mono ?_);rintro e w6 ⟨A7,c7,A8,c8,rfl,hs8,h8,hb⟩;have H8:=zH hs8;have HA8:=zH h8;have HX6:=zj HX3 hb;have HO6:=zH (qG HO3.out hb (qi HO3.out));have HOL:=zH (qi HO3.out);have HZ36:=zH hb.size;clear hs8 hb h8)
  clear q0 q1 q2 q3 q4 q5 q6 d0 d1;obtain⟨q0,q1,q2,q3,q4,q5,q6⟩:=HBX.out.keep HX6.out HZ.out;have b4:=(HX6.out.cell (p:=zc (ad.add (f*8)) 4) (by show(ad.add _).block<_;rw[zt];exact HAB.out)).trans HB4.out;obtain⟨ac,rfl,hac,i0',i1',i2'⟩:=HIC.out.row.at_ (show pc<x.code.length by rw[HCN.out];exact hpn);have hip:x.code[pc]? =some (x.code[pc]'(by rw[HCN.out];exact hpn)):=List.getElem?_eq_getElem _;generalize x.code[pc]'(by rw[HCN.out];exact hpn)=ins at*
  obtain⟨op,a,b⟩:=ins;dsimp only at i0' i1' i2';have HIP:=zH hip;have j0:=(HX6.out.cell (p:=ac.add (pc*3)) (by rw[zt];exact hac)).trans i0';have j1:=(HX6.out.cell (p:=zc (ac.add (pc*3)) 1) (by show(ac.add _).block<_;rw[zt];exact hac)).trans i1';have j2:=(HX6.out.cell (p:=zc (ac.add (pc*3)) 2) (by show(ac.add _).block<_;rw[zt];exact hac)).trans i2';clear hip i0' i1' i2';go_upto_region 11 with fail
  have hA7:Below w6.heap.size w6 (w6.alloc (.cells #[.int .i64 op,.int .i64 a,.int .i64 b] 45)):=(zb _ _).alloc (zn _) _;have HI7:Hid (zf (w6.alloc (.cells #[.int .i64 op,.int .i64 a,.int .i64 b] 45)) w6.heap.size [.int .i64 op,.int .i64 a,.int .i64 b] 45):=zH (zf.new w6 _ _);have HX7:=zj HX6 hA7;have HO7:=zH (qG HO6.out hA7 (qi HO6.out));have HN7:=zH ((qm5 H8.out).below_to hA7 (zn _));have hq1:=H8.out.le;have hq2:=H8.out.cap;have HZ7:=zH hA7.size;have hZ36:=HZ36.out;clear q0 q1 q2 q3 q4 q5 q6 b4 j0 j1 j2;obtain⟨Ni,hNi⟩:∃z,w6.heap.size=z:=⟨_,rfl⟩
  simp only[hNi]at HI7⊢
  generalize w6.alloc (.cells #[.int .i64 op,.int .i64 a,.int .i64 b] 45)=w7 at*
  have HNG:Hid (NL=qE (pc:Int) op a):=zH (by
   have:=q4y (st:=s.stack) HGX.out HIP.out (by rw[HRS.out]);rw[HRS.out]at this;exact this)
  obtain⟨NQ,hNQ⟩:∃NQ,kC m f S pc=NQ:=⟨_,rfl⟩
  have HNQ:Hid ((op=33→NQ=[-1])∧(¬op=33→NQ=NL)):=zH ⟨fun e=>by
   rw[←hNQ];unfold kC;rw[HNX.out,HNG.out,if_pos (q40.mpr e)],fun e=>by
   rw[←hNQ];unfold kC;rw[HNX.out,HNG.out,if_neg (fun h=>e (q40.mp h))]⟩
  have HLT:=zH hNQ;clear hNQ hA7;have e0:=HI7.out.cells 0 _ rfl;go_upto_if 56 with fail
  go_cut [11] (fun s wx=>∃A9 c9,s= .slice A9 NQ.length c9∧Hid (zz wx wx.heap.size A9 (NQ.map (Value.int .i64)))∧Hid (NQ.length≤c9∧c9≤9223372036854775807)∧Hid (∀ad,A9=some ad→w3.heap.size≤ad.block)∧Hid (Below w7.heap.size w7 wx))
  case first=>
   by_cases h33:op=33
   ·subst h33;have e:=HNQ.out.1 rfl;subst e;go_wp2_with fail
    go_meet
    exact⟨some ⟨w7.heap.size,0,none⟩,1,rfl,zH (q2n w7 _ _),zH ⟨zn _,by omega⟩,zH (fun ad e=>by injection e with e;subst e;exact Nat.le_trans hZ36 HZ7.out),zH ((zb _ _).alloc (zn _) _)⟩
   ·have e:=HNQ.out.2 h33;subst e;go_wp2_with fail
    go_meet
    exact⟨A8,c8,rfl,zH (HN7.out.mono' HZ7.out),zH ⟨hq1,hq2⟩,HA8,zH (zb _ _)⟩
  case rest=>
   obtain⟨A9,c9,rfl,H9,HQ9,HA9,HX9⟩:=hcut;have hq91:=HQ9.out.1;have hq92:=HQ9.out.2;have hNQl:NQ.length≤2:=by
    rw[←HLT.out];have:=q1h m f S pc;unfold kC;split
    ·exact(show 1≤2 by omega)
    ·exact this
   obtain⟨C,hC⟩:∃C,jx m op a b=C:=⟨_,rfl⟩
   have HCV:=zH hC;have HCP:Hid (qs m x pc=C):=zH (by unfold qs;rw[HIP.out];exact hC);have HINS:Hid ((op,a,b) ∈x.code):=zH (List.mem_of_getElem? HIP.out);have HWR:Hid (Jd w1 wc u7 WL wc.heap.size A9 NQ Ni op a b):=zH ⟨qG HO7.out HX9.out (qi HO7.out),fun g hg ad e=>by have h1:=HOL.out g hg;have h2:=HA9.out ad e;omega,H9.out,zn _,HI7.out.keep HX9.out (zf.lt HI7.out),HX7.out.trans (HX9.out.mono HX7.out.size)⟩;have HAL:Hid (∀ad,A9=some ad→0<NQ.length→ad.block<wc.heap.size):=zH (fun ad e hp=>by
    obtain⟨ad',e',hb,_⟩:=H9.out 0 (.int .i64 NQ[0]) (by rw[List.getElem?_map,List.getElem?_eq_getElem hp];rfl);rw[e]at e';cases e';exact hb)
   clear hC HO7 HI7 HX7 HN7 HO6 HO3 H8 HA8 H9 HQ9 HX9 e0;go_wp2_with fail
   go_loopw [7,60] (fun v i wr=>∃k:Nat,k≤NQ.length∧i= .int .i64 k∧Hid (Jd w1 wr v (WL++(NQ.take k).map (fun q=>((pc:Int),q,C))) wc.heap.size A9 NQ Ni op a b)) (fun _ i _=>NQ.length - (intOf i).toNat)
   case atStart=>exact⟨0,Nat.zero_le _,rfl,by rw[List.take_zero,List.map_nil,List.append_nil];exact HWR⟩
   case round=>
    clear HWR;obtain⟨k,hk,rfl,HR⟩:=hrel;by_cases hkn:k<NQ.length
    ·have hki:(k:Int)<(NQ.length:Int):=by omega
     obtain⟨ad9,hA9e,hab9,hc9⟩:=HR.out.next k (.int .i64 NQ[k]) (by rw[List.getElem?_map,List.getElem?_eq_getElem hkn];rfl);subst hA9e;have HAB9:Hid (∀ad',some ad9=some ad'→ad'.block<wc.heap.size):=zH (fun ad' e=>by cases e;exact hab9);have HTK:Hid (WL++(NQ.take (k+1)).map (fun q=>((pc:Int),q,C))=(WL++(NQ.take k).map (fun q=>((pc:Int),q,C)))++[((pc:Int),NQ[k],C)]):=zH (by rw[List.take_add_one,List.getElem?_eq_getElem hkn,List.map_append,List.append_assoc];rfl);have hLL:(WL++(NQ.take k).map (fun q=>((pc:Int),q,C))).length≤1000:=by rw[List.length_append,List.length_map,List.length_take];omega
     generalize WL++(NQ.take k).map (fun q=>((pc:Int),q,C))=LL at*
     generalize NQ[k]=to_ at*
     obtain⟨q0,q1,q2,q3,q4,q5,q6⟩:=HBX.out.keep (HR.out.low) HZ.out;have j0:=HR.out.ins.cells 0 _ rfl;have j1:=HR.out.ins.cells 1 _ rfl;have j2:=HR.out.ins.cells 2 _ rfl;have HXR:=zH HR.out.low;go_wp2_with(first
      |(go_at_call 12;(with_reducible refine(qoa HI HXR HM HXM HINS HCV).mono ?_);rintro e w5 ⟨rfl,hb⟩;have HR5:=zH (HR.out.keep hb);clear hb)
      |(at_builtin;refine wpList_append_lies _ rfl _ _ 75 rfl w1.heap.size 78 i0 (.agg #[.int .i64 0,.int .i64 0,.int .i64 0]) 3 24 Tryz.underlying75 hi hz0 hz1 hz2 rfl (by decide) _ LL.length (ZI LL) rfl (HR5.out.row.alloc _) ⟨_,0,none⟩ 1 1 [.int .i64 pc,.int .i64 to_,.int .i64 C] rfl rfl (qnc _ _ _ _) (by simp[Value.oneCell']) (by decide) (by unfold maxLen;omega) (by omega) (by have:=HR5.out.low.size;simp;omega) _ rfl ?_;intro g9 c9' w9 hown hgrow hor hlt9;have HR9:Hid (Jd w1 w9 (.slice (some ⟨g9,0,none⟩) (LL.length+1) c9') (LL++[((pc:Int),to_,C)]) wc.heap.size (some ad9) NQ Ni op a b):=zH (HR5.out.app rfl HAB9.out hown hgrow hor);clear hown hgrow hor hlt9))
     go_roundw;case rel=>exact⟨k+1,by omega,by go_num,by rw[HTK.out];exact HR9⟩
     case measure=>simp[intOf];omega
    ·obtain rfl:k=NQ.length:=by omega
     have HEND:Hid (vV m f x S (pc+1)=WL++(NQ.take NQ.length).map (fun q=>((pc:Int),q,C))):=zH (by
      rw[HWS.out,List.take_length];unfold jN;rw[HNP.out,if_pos HSE.out,HLT.out,HCP.out])
     go_wp2_with fail
     go_roundw;case rel=>exact⟨pc+1,by omega,by go_num,by rw[HEND.out];exact zH HR.out.row,zH HR.out.low⟩
     case measure=>simp[intOf];omega
theorem qpt{m:za}{l:List (List zu)}{f:Nat}{x:ze}{A:Option Addr}{c:Nat}{h:zl}{w0 w:World}{W:List (Int×Int×Int)}(HI:Hid (zp w0 w0.heap.size h m))(HX:Hid (Below w0.heap.size w0 w))(HM:Hid (zP m))(HT:Hid (qM m w A c l))(HGX:Hid (m.methods[f]? =some x))(HW:Hid (jw m l f=W)):
  Calls Tryz.prog 31 #[zr h m,.slice A l.length c,.int .i64 f] w fun e w'=>∃v,e= .returned v∧w'.ownsRow w.heap.size 78 3 v W.length (ZI W)∧Below w.heap.size w w':=by
 have H:=qa9 m l f x A c h w (HI.out.now HX.out) HM.out HT.out HGX.out;rw[HW.out]at H;exact H
theorem kx{m:za}{w w':World}{A:Option Addr}{c:Nat}{l:List (List zu)}(h:qM m w A c l)(hb:Below w.heap.size w w'):qM m w' A c l:=⟨js RowAt.keeps h.1 hb,h.2⟩
theorem qhl{w:World}{B e size n:Nat}{v:Value}{xs:List Value}(h:w.ownsRow B e size v n xs):∃A c,v= .slice A n c:=by
 rcases jA h with⟨rfl,rfl⟩|⟨g,c,rfl,_⟩
 ·exact⟨_,_,rfl⟩
 ·exact⟨_,_,rfl⟩
theorem qgm{w:World}{B B' e e' k k' n n':Nat}{v v':Value}{xs ys:List Value}(h:w.ownsRow B e k v n xs)(h':w.ownsRow B' e' k' v' n' ys)(hne:e≠e'){g:Nat}(hg:v.ownBlock=some g):v'.ownBlock≠some g:=fun hg'=>by
 rcases h.2 with⟨rfl,_⟩|⟨g1,cap,cur,rfl,_,hh,_⟩
 ·cases hg
 ·have e1:g1=g:=by simpa[Value.ownBlock]using hg
  rcases h'.2 with⟨rfl,_⟩|⟨g2,cap',cur',rfl,_,hh',_⟩
  ·cases hg'
  ·have e2:g2=g:=by simpa[Value.ownBlock]using hg'
   subst e1;subst e2;rw[hh]at hh';injection hh' with h1;injection h1 with _ h2 _;exact hne h2
theorem qof{w w9:World}{B B' e e' k k' n n':Nat}{v v':Value}{xs ys:List Value}{o:Obj}(h:w.ownsRow B e k v n xs)(h':w.ownsRow B' e' k' v' n' ys)(hne:e≠e')(hg:(w.alloc o).grownBy w9 v'.ownBlock):w9.ownsRow B e k v n xs:=by
 have ha:=qG h ((zb w.heap.size w).alloc (zn _) o) (qi h);refine⟨ha.1,?_⟩;rcases ha.2 with h0|⟨g,cap,cur,hv,hb,hh,rest⟩
 ·exact .inl h0
 ·refine .inr ⟨g,cap,cur,hv,hb,?_,rest⟩;rw[hg.block g (lt_of_block hh) (fun e=>qgm h h' hne (g:=g) (by rw[hv];rfl) e.symm)];exact hh
theorem jE.slc{w:World}{B n g' c:Nat}{gs:List Nat}{L:List Inq}(h:jE w B (.slice (some ⟨g',0,none⟩) L.length c) n gs L)(hn:n≤1000):zd JO 2 w w.heap.size (some ⟨g',0,none⟩) c L:=by
 rcases jA h.row with⟨e,_⟩|⟨g,c',e,h1,h2⟩
 ·cases e
 ·injection e with e1 _ e3;cases e1;cases e3;refine⟨h1,h2,fun i q hi=> ?_⟩;obtain⟨gq,c0,c1,hN,hq,hg',_⟩:=h.at_ hi;refine⟨_,rfl,hg',⟨_,_,?_,hN.slc rfl (by omega)⟩,?_⟩
  ·rw[addg,c0,hq]
  ·rw[addg];exact c1
set_option maxHeartbeats 12800000 in
theorem q3y(m:za)(l:List (List zu))(f:Int)(A:Option Addr)(c:Nat)(h:zl)(w:World)(H:zp w w.heap.size h m)(hm:zP m)(hT:qM m w A c l):
  Calls Tryz.prog 14 #[zr h m,.slice A l.length c,.int .i64 f] w fun e w'=>∃A' c',e= .returned (.slice A' (vB m l f).length c')∧zd JO 2 w' w'.heap.size A' c' (vB m l f)∧Below w.heap.size w w':=by
 have HW:=zH (ko (w:=w) (h:=h) (m:=m));have HBX:=zH (qf w h m);have HZ:Hid (w.heap.size<(w.alloc (zq h m)).heap.size):=zH (by simp);have hle:=H.methods.le;have hcap:=H.methods.cap;by_cases hf:0≤f∧f<m.methods.length;rotate_left
 ·have e:vB m l f=[]:=by unfold vB;rw[if_neg hf]
  rw[e];clear H hT hm e;by_cases h0:f<0
  ·go_enter Tryz.func14,Tryz.ntmps14;go_upto_region 1 with fail
   generalize w.alloc (zq h m)=w1 at*
   obtain⟨q0,q1,q2,q3,q4,q5,q6⟩:=HBX.out;go_wp2_with fail
   go_ret;exact⟨none,0,rfl,ji,HW.out⟩
  ·have h1:¬f<m.methods.length:=fun h1=>hf ⟨by omega,h1⟩;have h2:(m.methods.length:Int)≤f:=by omega
   clear hf;go_enter Tryz.func14,Tryz.ntmps14;go_upto_region 1 with fail
   generalize w.alloc (zq h m)=w1 at*
   obtain⟨q0,q1,q2,q3,q4,q5,q6⟩:=HBX.out;go_wp2_with fail
   go_ret;exact⟨none,0,rfl,ji,HW.out⟩
 obtain⟨f0,f1⟩:=hf;obtain⟨k,rfl⟩:=Int.eq_ofNat_of_zero_le f0;have hk:k<m.methods.length:=by omega
 have hkl:k<l.length:=by rw[hT.2.2.1];exact hk
 obtain⟨x,hxe⟩:∃x,m.methods[k]=x:=⟨_,rfl⟩
 have hgx:m.methods[k]? =some x:=by rw[List.getElem?_eq_getElem hk,hxe]
 have hxm:x ∈m.methods:=List.mem_of_getElem? hgx;have hxN:zm m (k:Int)=x:=by unfold zm;rw[Int.toNat_natCast,hgx];rfl
 obtain⟨n,hn⟩:∃n,x.code.length=n:=⟨_,rfl⟩
 have hn64:n≤64:=by rw[←hn];exact(hm.method hxm).fits.cl
 have hFS:=hT.2.2.2 k l[k] (List.getElem?_eq_getElem hkl);have hok:=q5x hm hgx (List.getElem?_eq_getElem hkl) hFS;obtain⟨WL,hWL⟩:∃W,jw m l k=W:=⟨_,rfl⟩
 have hw2:WL.length≤128:=by
  rw[←hWL];unfold jw;rw[hxN];have:=q24 m k x (l[k]?.getD []) (fun p=>q1h m k _ p) x.code.length;omega
 have hrules:vB m l (k:Int)=qN n (-1) 0 x.pot::WL.map (kA n):=by
  unfold vB;rw[if_pos ⟨f0,f1⟩,Int.toNat_natCast,hxN,q3w,hn,←hWL]
  ·unfold jw;rw[hxN,hn]
  ·intro pc hpc hs hnil;have:=hok.none ((pc:Int),-1,qs m x pc) (by
    unfold jw;rw[hxN];have key:∀N,pc<N→((pc:Int),(-1:Int),qs m x pc) ∈vV m k x (l[k]?.getD []) N:=by
     intro N
     induction N with
     |zero=>intro h;omega
     |succ N ih=>
      intro h;rcases Nat.lt_or_ge pc N with q|q
      ·exact List.mem_append_left _ (ih q)
      ·obtain rfl:pc=N:=by omega
       refine List.mem_append_right _ ?_;unfold jN kC;rw[if_pos hs,if_pos hnil];simp
    exact key _ hpc) (by show(-1:Int)<0;omega)
   exact this
 have HOK:Hid (Zj WL n):=zH (by rw[←hWL,←hn];exact hok);rw[hrules];have HI:=zH (H.now HW.out);have HM:=zH hm;have HTY:=zH (kx hT HW.out);have HGX:=zH hgx;have HWL:=zH hWL;obtain⟨ad,hxx,eA,hab,hin,hcm⟩:=jB HI.out hk;rw[hxe]at hin hcm;obtain⟨A0,Ab,A2,A3,A4,k0,k1,k2,k3,k4⟩:=h;dsimp only at eA hle hcap;subst eA;obtain⟨b0,b1,b2,b3,b4,b5,b6,b7⟩:=hcm;obtain⟨xA0,xA1,xA4,xA7,kx0,kx1,kx4,kx7⟩:=hxx;dsimp only at b0 b1 b4 b7;rw[hn]at b4;obtain⟨i0,hi,hz0,hz1,hz2⟩:=jg q9e;have HAB:Hid (ad.block<(w.alloc (zq ⟨A0,Ab,A2,some ad,A4,k0,k1,k2,k3,k4⟩ m)).heap.size):=zH hab;have hf0:¬(k:Int)<0:=by omega
 have hf2:¬(m.methods.length:Int)≤(k:Int):=by omega
 have HN1:Hid (n≤1000):=zH (by omega);obtain⟨R0,hR0⟩:∃R,qN n (-1) 0 x.pot=R:=⟨_,rfl⟩
 have hR2':R0.2=x.pot:=by rw[←hR0];rfl
 have hRl':R0.1.length=n:=by rw[←hR0];exact q2a ..
 have HR0:Hid (qN n (-1) 0 x.pot=(R0.1,x.pot)):=zH (by rw[hR0,←hR2']);rw[hR0];have HRP:=zH (⟨hR2',hRl'⟩:R0.2=x.pot∧R0.1.length=n);clear hR0 hR2' hRl';clear H hm hT hgx hxm hxN hFS hok hWL hrules hin hn hab hxe hkl;go_enter Tryz.func14,Tryz.ntmps14;go_upto_region 1 with fail
 generalize w.alloc (zq ⟨A0,Ab,A2,some ad,A4,k0,k1,k2,k3,k4⟩ m)=w1 at*
 obtain⟨q0,q1,q2,q3,q4,q5,q6⟩:=HBX.out;go_upto_region 5 with fail
 have HX3:Hid (Below w1.heap.size w1 (w1.alloc (.cells #[.slice xA0 x.args.length kx0,.slice xA1 x.locals.length kx1,.int .i64 x.ret.1,.int .i64 x.ret.2,.slice xA4 n kx4,.int .i64 x.depth,.int .i64 x.pot,.slice xA7 x.phi.length kx7] 42))):=zH ((zb _ _).alloc (zn _) _);have HXB:Hid (zf (w1.alloc (.cells #[.slice xA0 x.args.length kx0,.slice xA1 x.locals.length kx1,.int .i64 x.ret.1,.int .i64 x.ret.2,.slice xA4 n kx4,.int .i64 x.depth,.int .i64 x.pot,.slice xA7 x.phi.length kx7] 42)) w1.heap.size [.slice xA0 x.args.length kx0,.slice xA1 x.locals.length kx1,.int .i64 x.ret.1,.int .i64 x.ret.2,.slice xA4 n kx4,.int .i64 x.depth,.int .i64 x.pot,.slice xA7 x.phi.length kx7] 42):=zH (zf.new w1 _ _);clear q0 q1 q2 q3 q4 q5 q6 b0 b1 b2 b3 b4 b5 b6 b7;generalize w1.alloc (.cells #[.slice xA0 x.args.length kx0,.slice xA1 x.locals.length kx1,.int .i64 x.ret.1,.int .i64 x.ret.2,.slice xA4 n kx4,.int .i64 x.depth,.int .i64 x.pot,.slice xA7 x.phi.length kx7] 42)=w3 at*
 have b6:=HXB.out.cells 6 _ rfl;go_upto_region 6 with(go_at_call 30;(with_reducible refine(qaf HN1 HR0).mono ?_);rintro e w4 ⟨g0,rfl,hg0,hN0,hb⟩;have HG0:=zH hg0;have HN0:=zH hN0;have HX4:=zj HX3 hb;clear hg0 hN0 hb)
 clear b6;have hB5:Below w4.heap.size w4 (w4.alloc (.cells #[.slice (some ⟨g0,0,none⟩) n n,.int .i64 x.pot] 49)):=(zb _ _).alloc (zn _) _;have HX5:=zj HX4 hB5;have HQ5:Hid (jE (w4.alloc (.cells #[.slice (some ⟨g0,0,none⟩) n n,.int .i64 x.pot] 49)) w1.heap.size (.slice (some ⟨w4.heap.size,0,none⟩) 1 1) n [g0] [R0]):=zH (by
  have:=jE.one (w:=w4) (B:=w1.heap.size) (n:=n) (g:=g0) (q:=R0) ⟨Nat.le_trans HX3.out.size HG0.out,HN0.out⟩ HRP.out.2 HX4.out.size;rw[HRP.out.1]at this;exact this)
 obtain⟨g5,hg5⟩:∃z,w4.heap.size=z:=⟨_,rfl⟩
 simp only[hg5]at HQ5⊢
 generalize w4.alloc (.cells #[.slice (some ⟨g0,0,none⟩) n n,.int .i64 x.pot] 49)=w5 at*
 have HT5:=zH (kx HTY.out HX5.out);have hsz5:=HX5.out.size;obtain⟨q0,q1,q2,q3,q4,q5,q6⟩:=HBX.out.keep HX5.out HZ.out;clear hB5;go_wp2_with(go_at_call 31;(with_reducible refine(qpt HI HX5 HM HT5 HGX HWL).mono ?_);rintro e w6 ⟨v6,rfl,ho,hb⟩;obtain⟨AW,cW,rfl⟩:=qhl ho;have HO6:=zH (jI ho HX5.out.size);have HX6:=zj HX5 hb;have HQ6:=zH (HQ5.out.keep hb);clear ho hb)
 clear q0 q1 q2 q3 q4 q5 q6;go_loopw [9,39] (fun v i wr=>∃(j g9 c9:Nat) (gs:List Nat),j≤WL.length∧i= .int .i64 j∧v= .slice (some ⟨g9,0,none⟩) (j+1) c9∧Hid (jE wr w1.heap.size (.slice (some ⟨g9,0,none⟩) (j+1) c9) n gs (R0::(WL.take j).map (kA n)))∧Hid (wr.ownsRow w1.heap.size 78 3 (.slice AW WL.length cW) WL.length (ZI WL))∧Hid (Below w1.heap.size w1 wr)) (fun _ i _=>WL.length - (intOf i).toNat)
 case atStart=>exact⟨0,g5,1,[g0],Nat.zero_le _,rfl,rfl,by rw[List.take_zero];exact HQ6,HO6,HX6⟩
 case round=>
  clear HQ5 HQ6 HO6 HX6;obtain⟨j,g9,c9,gs,hj,rfl,rfl,HQ,HO,HX⟩:=hrel;by_cases hjw:j<WL.length
  ·have hji:(j:Int)<(WL.length:Int):=by omega
   obtain⟨gw,rfl⟩:∃gw,AW=some ⟨gw,0,none⟩:=by
    rcases jA HO.out with⟨e,h0⟩|⟨g,c',e,_⟩
    ·omega
    ·injection e with e1 _ _;exact⟨g,e1⟩
   obtain⟨_,hcw⟩:=kb HO.out;have hget:=List.getElem?_eq_getElem hjw;have u0:=(hcw _ _ (Zs (f:=Jl) (k:=3) (fun _=>rfl) WL j 0 _ hget (by decide))).1;have u1:=(hcw _ _ (Zs (f:=Jl) (k:=3) (fun _=>rfl) WL j 1 _ hget (by decide))).1;have u2:=(hcw _ _ (Zs (f:=Jl) (k:=3) (fun _=>rfl) WL j 2 _ hget (by decide))).1;have hcost:=HOK.out.cost _ (List.getElem_mem hjw);have HTK:Hid (R0::(WL.take (j+1)).map (kA n)=(R0::(WL.take j).map (kA n))++[kA n WL[j]]):=zH (by rw[List.take_add_one,hget,List.map_append];rfl);have HLL:Hid ((R0::(WL.take j).map (kA n)).length=j+1):=zH (by rw[List.length_cons,List.length_map,List.length_take];omega);generalize R0::(WL.take j).map (kA n)=LL at*
   generalize WL[j]=t at*
   obtain⟨a,b,cc⟩:=t;dsimp only at hcost;replace u0:wr.cell? ⟨gw,j*3,none⟩=some (.int .i64 a):=u0;replace u1:wr.cell? ⟨gw,j*3+1,none⟩=some (.int .i64 b):=u1;replace u2:wr.cell? ⟨gw,j*3+2,none⟩=some (.int .i64 cc):=u2;have HRU:Hid (qN n a b (-cc)=((kA n (a,b,cc)).1,-cc)):=zH rfl;have HRW:Hid ((kA n (a,b,cc)).1.length=n∧kA n (a,b,cc)=((kA n (a,b,cc)).1,-cc)):=zH ⟨q2a ..,rfl⟩;obtain⟨R,hR⟩:∃R,kA n (a,b,cc)=R:=⟨_,rfl⟩
   rw[hR]at HRU HRW HTK;clear hR hget hcw;have hA7:Below wr.heap.size wr (wr.alloc (.cells #[.int .i64 a,.int .i64 b,.int .i64 cc] 78)):=(zb _ _).alloc (zn _) _;have HC7:=zH (qd wr [.int .i64 a,.int .i64 b,.int .i64 cc] 78);have HX7:=zj HX hA7;have HQ7:=zH (HQ.out.keep hA7);have HO7:=zH (qG HO.out hA7 (qi HO.out));clear hA7;go_upto_region 9 with fail
   generalize wr.alloc (.cells #[.int .i64 a,.int .i64 b,.int .i64 cc] 78)=w7 at*
   clear u0 u1 u2;have e0:=HC7.out 0 _ rfl;have e1:=HC7.out 1 _ rfl;have e2:=HC7.out 2 _ rfl;go_wp2_with(first
    |(go_at_call 30;(with_reducible refine(qaf HN1 HRU).mono ?_);rintro e w8 ⟨g8,rfl,hg8,hN8,hb⟩;have HG8:=zH (⟨Nat.le_trans HX7.out.size hg8,hN8⟩:w1.heap.size≤g8∧zZ w8 g8 R.1);have HX8:=zj HX7 hb;have HQ8:=zH (HQ7.out.keep hb);have HO8:=zH (qG HO7.out hb (qi HO7.out));have HQR:=zH (HQ8.out.row' HLL.out);clear hg8 hN8 hb)
    |(at_builtin;refine wpList_append_lies _ rfl _ _ 46 rfl w1.heap.size 49 i0 (.agg #[.slice none 0 0,.int .i64 0]) 2 32 Tryz.underlying46 hi hz0 hz1 hz2 rfl (by decide) _ (j+1) _ rfl (HQR.out.alloc _) ⟨_,0,none⟩ 1 1 (kY n g8 (-cc)) rfl rfl (q67 _ _ _ _) (q5u _ _ _) (by decide) (by unfold maxLen;omega) (by omega) (by have:=HX8.out.size;simp;omega) _ rfl ?_;intro g10 c10 w10 hown hgrow hor hlt10;have HQ10:Hid (jE w10 w1.heap.size (.slice (some ⟨g10,0,none⟩) (j+1+1) c10) n (gs++[g8]) (LL++[R])):=zH (HQ8.out.app HLL.out (q:=R) HG8.out HRW.out.1 (by rw[show R.2= -cc by rw[HRW.out.2]];exact hown) hgrow);have HX10:=zH (qA (HX8.out.alloc HX8.out.size _) (HQR.out.alloc _) (by have:=HX8.out.size;simp;omega) hgrow);have HO10:=zH (qof HO8.out HQR.out (by decide) hgrow);clear hown hgrow hor hlt10))
   go_roundw;case rel=>exact⟨j+1,g10,c10,gs++[g8],by omega,by go_num,by go_num,by rw[HTK.out];exact HQ10,HO10,HX10⟩
   case measure=>simp[intOf];omega
  ·obtain rfl:j=WL.length:=by omega
   rw[List.take_length]at HQ;have HS:=zH (jE.slc (by have:(R0::WL.map (kA n)).length=WL.length+1:=(by simp);rw[this];exact HQ.out) HN1.out);go_wp2_with fail
   go_ret;exact⟨_,_,by simp,HS.out,HW.out.trans (HX.out.mono HW.out.size)⟩
theorem qh1{m:za}{l:List (List zu)}{f:Int}{A:Option Addr}{c:Nat}{h:zl}{w0 w:World}{L:List Inq}(HI:Hid (zp w0 w0.heap.size h m))(HX:Hid (Below w0.heap.size w0 w))(HM:Hid (zP m))(HT:Hid (qM m w A c l))(HL:Hid (vB m l f=L)):
  Calls Tryz.prog 14 #[zr h m,.slice A l.length c,.int .i64 f] w fun e w'=>∃A' c',e= .returned (.slice A' L.length c')∧zd JO 2 w' w'.heap.size A' c' L∧Below w.heap.size w w':=by
 have H:=q3y m l f A c h w (HI.out.now HX.out) HM.out HT.out;rw[HL.out]at H;exact H
theorem qao{Q L:List Int}{most:Int}{n:Nat}{A B:Option Addr}{c d nl:Nat}{w:World}{r:Bool}(hn:Hid (Q.length=n))(hm:Hid (L.length=nl))(hq:Hid (zd zo 1 w w.heap.size A c Q))(hl:Hid (zd zo 1 w w.heap.size B d L))(hr:Hid ((ZA (Q,most) L).getD false=r)):
  Calls Tryz.prog 25 #[.agg #[.slice A n c,.int .i64 most],.slice B nl d] w fun e w'=>∃k,e= .returned (.tuple #[.bool r,.int .i64 k])∧Below w.heap.size w w':=by
 obtain rfl:=hn.out;obtain rfl:=hm.out;exact(qhw (Q,most) L A B c d w hq.out hl.out).mono fun e w' ⟨h1,h2⟩=>⟨(if(ZA (Q,most) L).isSome then 0 else 14),by rw[h1,hr.out],h2⟩
set_option maxHeartbeats 12800000 in
theorem q3z(m:za)(l:List (List zu))(A:Option Addr)(c:Nat)(h:zl)(w:World)(H:zp w w.heap.size h m)(hm:zP m)(hT:qM m w A c l):
  Calls Tryz.prog 10 #[zr h m,.slice A l.length c] w fun e w'=>e= .returned (.tuple #[.int .i64 (if 0≤qZ m l then qZ m l else 0),.int .i64 (if 0≤qZ m l then 6 else 0)])∧Below w.heap.size w w':=by
 have HW:=zH (ko (w:=w) (h:=h) (m:=m));have HBX:=zH (qf w h m);have HZ:Hid (w.heap.size<(w.alloc (zq h m)).heap.size):=zH (by simp);have HI:=zH (H.now HW.out);have HM:=zH hm;have hle:=H.methods.le;have hcap:=H.methods.cap;have HTY:=zH (kx hT HW.out);obtain⟨P,hP⟩:∃P,qZ m l=P:=⟨_,rfl⟩
 have HP:=zH hP;rw[hP];clear H hm hT hP;go_enter Tryz.func10,Tryz.ntmps10;go_upto_region 1 with fail
 generalize w.alloc (zq h m)=w1 at*
 obtain⟨q0,q1,q2,q3,q4,q5,q6⟩:=HBX.out;go_wp2_with fail
 clear q0 q1 q2 q3 q4 q5 q6;go_loopw [15] (fun i wr=>∃k:Nat,k≤m.methods.length∧i= .int .i64 k∧Hid (∀g,g<k→vd m l g=false)∧Hid (Below w1.heap.size w1 wr)) (fun i _=>m.methods.length - (intOf i).toNat)
 case atStart=>exact⟨0,Nat.zero_le _,rfl,zH (fun g hg=>by omega),zH (zb _ _)⟩
 case round=>
  obtain⟨k,hk,rfl,HA,HX⟩:=hrel;by_cases hlt:k<m.methods.length;rotate_left
  ·have hki:¬(k:Int)<(m.methods.length:Int):=by omega
   have hPn:P= -1:=by rw[←HP.out];exact q1v (fun g hg=>HA.out g (by omega))
   go_wp2_with fail
   go_ret2
   exact⟨by first|rfl|simp,HW.out.trans (HX.out.mono HW.out.size)⟩
  have hki:(k:Int)<(m.methods.length:Int):=by omega
  have hkl:k<l.length:=by rw[HTY.out.2.2.1];exact hlt
  obtain⟨ad,hxx,eA,hab,hin,hcm⟩:=jB HI.out hlt;have hgx:m.methods[k]? =some m.methods[k]:=List.getElem?_eq_getElem hlt;have hrk:=qnu HM.out hgx (List.getElem?_eq_getElem hkl) (HTY.out.2.2.2 k l[k] (List.getElem?_eq_getElem hkl));obtain⟨A0,Ab,A2,A3,A4,k0,k1,k2,k3,k4⟩:=h;dsimp only at eA hle hcap;subst eA;generalize m.methods[k]=x at*
  have HRK:=zH hrk;obtain⟨b0,b1,b2,b3,b4,b5,b6,b7⟩:=hcm.keep HX.out (by rw[zt];exact hab);have HPH:Hid (zd zo 1 w1 w1.heap.size hxx.A7 hxx.k7 x.phi):=zH hin.phi;obtain⟨xA0,xA1,xA4,xA7,kx0,kx1,kx4,kx7⟩:=hxx;dsimp only at b0 b1 b4 b7 HPH;obtain⟨np,hnp⟩:∃np,x.phi.length=np:=⟨_,rfl⟩
  have HNP:=zH hnp;rw[hnp]at b7;have HPF:Hid (vd m l k=true→P=(k:Int)):=zH (fun hb=>by rw[←HP.out];exact q0e hlt HA.out hb);obtain⟨L,hL⟩:∃L,vB m l (k:Int)=L:=⟨_,rfl⟩
  have HLR:=zH hL;rw[hL]at HRK;have HA7:Below wr.heap.size wr (wr.alloc (.cells #[.slice xA0 x.args.length kx0,.slice xA1 x.locals.length kx1,.int .i64 x.ret.1,.int .i64 x.ret.2,.slice xA4 x.code.length kx4,.int .i64 x.depth,.int .i64 x.pot,.slice xA7 np kx7] 42)):=(zb _ _).alloc (zn _) _;have HX3:=zj HX HA7;have HXB:Hid (zf (wr.alloc (.cells #[.slice xA0 x.args.length kx0,.slice xA1 x.locals.length kx1,.int .i64 x.ret.1,.int .i64 x.ret.2,.slice xA4 x.code.length kx4,.int .i64 x.depth,.int .i64 x.pot,.slice xA7 np kx7] 42)) wr.heap.size [.slice xA0 x.args.length kx0,.slice xA1 x.locals.length kx1,.int .i64 x.ret.1,.int .i64 x.ret.2,.slice xA4 x.code.length kx4,.int .i64 x.depth,.int .i64 x.pot,.slice xA7 np kx7] 42):=zH (zf.new wr _ _);obtain⟨q0,q1,q2,q3,q4,q5,q6⟩:=HBX.out.keep HX.out HZ.out;clear hgx hrk hin hcm hab hL HA7 hnp;go_upto_region 4 with fail
  clear q0 q1 q2 q3 q4 q5 q6 b0 b1 b2 b3 b4 b5 b6 b7;obtain⟨N,hN⟩:∃z,wr.heap.size=z:=⟨_,rfl⟩
  simp only[hN]at HXB⊢
  generalize wr.alloc (.cells #[.slice xA0 x.args.length kx0,.slice xA1 x.locals.length kx1,.int .i64 x.ret.1,.int .i64 x.ret.2,.slice xA4 x.code.length kx4,.int .i64 x.depth,.int .i64 x.pot,.slice xA7 np kx7] 42)=w3 at*
  obtain⟨q0,q1,q2,q3,q4,q5,q6⟩:=HBX.out.keep HX3.out HZ.out;have HT3:=zH (kx HTY.out HX3.out);go_wp2_with(go_at_call 14;(with_reducible refine(qh1 HI HX3 HM HT3 HLR).mono ?_);rintro e w5 ⟨A5,c5,rfl,hs,hb⟩;have HS5:=zH hs;have HX5:=zj HX3 hb;have HXB5:=zH (HXB.out.keep hb (zf.lt HXB.out));clear hs hb)
  clear q0 q1 q2 q3 q4 q5 q6;have hl51:=HS5.out.le;have hl52:=HS5.out.cap;go_loopw [25] (fun i wr=>∃j:Nat,j≤L.length∧i= .int .i64 j∧Hid ((L.take j).all (kD x)=true)∧Hid (Below w5.heap.size w5 wr)) (fun i _=>L.length - (intOf i).toNat)
  case atStart=>exact⟨0,Nat.zero_le _,rfl,zH (by rw[List.take_zero];rfl),zH (zb _ _)⟩
  case round=>
   clear HX;obtain⟨j,hj,rfl,HJ,HY⟩:=hrel;by_cases hjl:j<L.length;rotate_left
   ·obtain rfl:j=L.length:=by omega
    rw[List.take_length]at HJ;have HB1:Hid (∀g,g<k+1→vd m l g=false):=zH (fun g hg=>by
     rcases Nat.lt_or_ge g k with q|q
     ·exact HA.out g q
     ·obtain rfl:g=k:=by omega
      have:=HRK.out;rw[HJ.out]at this;simpa using this.symm)
    have HX9:=zH (HX5.out.trans (HY.out.mono HX5.out.size));go_wp2_with fail
    go_roundw;case rel=>exact⟨k+1,by omega,by go_num,HB1,HX9⟩
    case measure=>simp[intOf];omega
   have hji:(j:Int)<(L.length:Int):=by omega
   obtain⟨ad5,rfl,hab5,⟨Aq,cq,u0,hsq⟩,u1⟩:=HS5.out.row.at_ hjl;have HTK:Hid (L.take (j+1)=L.take j++[L[j]]):=zH (by rw[List.take_add_one,List.getElem?_eq_getElem hjl];rfl);have HIN:Hid (L[j] ∈L):=zH (List.getElem_mem hjl);generalize L[j]=q at*
   obtain⟨Q,most⟩:=q;dsimp only at u0 u1 hsq;obtain⟨nq,hnq⟩:∃n,Q.length=n:=⟨_,rfl⟩
   have HNQ:=zH hnq;rw[hnq]at u0;have HSQ:=zH hsq;have v0:=(HY.out.cell (p:=ad5.add (j*2)) (by rw[zt];exact hab5)).trans u0;have v1:=(HY.out.cell (p:=zc (ad5.add (j*2)) 1) (by show(ad5.add _).block<_;rw[zt];exact hab5)).trans u1;have hA8:Below wr.heap.size wr (wr.alloc (.cells #[.slice Aq nq cq,.int .i64 most] 49)):=(zb _ _).alloc (zn _) _;have HC8:=zH (qd wr [.slice Aq nq cq,.int .i64 most] 49);have HY8:=zj HY hA8;have HX8:=zH (HX5.out.trans (HY8.out.mono HX5.out.size));clear u0 u1 hnq hsq hA8;go_upto_region 7 with fail
   generalize wr.alloc (.cells #[.slice Aq nq cq,.int .i64 most] 49)=w8 at*
   clear v0 v1;have e0:=HC8.out 0 _ rfl;have e1:=HC8.out 1 _ rfl;have b7:=(HXB5.out.keep HY8.out (zf.lt HXB5.out)).cells 7 _ rfl;have HQ8:Hid (zd zo 1 w8 w8.heap.size Aq cq Q):=zH (js zo.keeps HSQ.out HY8.out);have HP8:Hid (zd zo 1 w8 w8.heap.size xA7 kx7 x.phi):=zH (js zo.keeps HPH.out HX8.out);obtain⟨r,hr⟩:∃r,(ZA (Q,most) x.phi).getD false=r:=⟨_,rfl⟩
   have HR:=zH hr;clear hr;cases r
   ·have hPk:P=(k:Int):=HPF.out (by
     have h1:=HRK.out;have h2:L.all (kD x)=false:=by
      rw[Bool.eq_false_iff];intro ha;have:=List.all_eq_true.mp ha _ HIN.out;unfold kD at this;rw[HR.out]at this;cases this
     rw[h2]at h1;simpa using h1.symm)
    go_wp2_with(go_at_call 25;(with_reducible refine(qao HNQ HNP HQ8 HP8 HR).mono ?_);rintro e w9 ⟨ke,rfl,hb⟩;have HX9:=zj HX8 hb;clear hb)
    go_ret2
    exact⟨by first|rfl|simp,HW.out.trans (HX9.out.mono HW.out.size)⟩
   ·have HJ1:Hid ((L.take (j+1)).all (kD x)=true):=zH (by
     rw[HTK.out,List.all_append,HJ.out];show(kD x (Q,most)&& true)=true;unfold kD;rw[HR.out];rfl)
    go_wp2_with(go_at_call 25;(with_reducible refine(qao HNQ HNP HQ8 HP8 HR).mono ?_);rintro e w9 ⟨ke,rfl,hb⟩;have HY9:=zj HY8 hb;clear hb)
    go_roundw;case rel=>exact⟨j+1,by omega,by go_num,HJ1,HY9⟩
    case measure=>simp[intOf];omega
theorem qld(m:za)(x:ze)(op a b:Int)(h:zl)(w:World)(H:zp w w.heap.size h m)(hs:vc m=true)(hx:x ∈m.methods)(hi:(op,a,b) ∈x.code):
  Calls Tryz.prog 12 #[zr h m,zF op a b] w fun e w'=>e= .returned (.int .i64 (jx m op a b))∧Below w.heap.size w w':=q4v m x op a b h w H (Qh hs) hx hi
theorem q91(m:za)(l:List (List zu))(A:Option Addr)(c:Nat)(h:zl)(w:World)(H:zp w w.heap.size h m)(hs:vc m=true)(hT:qM m w A c l):
  Calls Tryz.prog 10 #[zr h m,.slice A l.length c] w fun e w'=>e= .returned (.tuple #[.int .i64 (if 0≤qZ m l then qZ m l else 0),.int .i64 (if 0≤qZ m l then 6 else 0)])∧Below w.heap.size w w':=q3z m l A c h w H (Qh hs) hT
theorem qh0(m:za)(l:List (List zu))(f:Int)(A:Option Addr)(c:Nat)(h:zl)(w:World)(H:zp w w.heap.size h m)(hs:vc m=true)(hT:qM m w A c l):
  Calls Tryz.prog 14 #[zr h m,.slice A l.length c,.int .i64 f] w fun e w'=>∃A' c',e= .returned (.slice A' (vB m l f).length c')∧zd JO 2 w' w'.heap.size A' c' (vB m l f)∧Below w.heap.size w w':=q3y m l f A c h w H (Qh hs) hT
end Go.Proofs.YtdbfllajopcccaaGreat
