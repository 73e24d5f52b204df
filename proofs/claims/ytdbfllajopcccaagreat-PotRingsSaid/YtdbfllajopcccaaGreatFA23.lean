import Derived.Test.YtdbfllajopcccaaGreatFA20
namespace Go.Proofs.YtdbfllajopcccaaGreat
set_option maxRecDepth 100000
set_option linter.unusedVariables false
set_option linter.unusedSimpArgs false
open Go.ChangeShapes Go.WideShapes Go.ChangeAt Go.RowKit
theorem q7g{P:Prop}(h:P:=by
 go_wp2_with(first|(go_at_call 33;(with_reducible refine(QH HZR).mono ?_);rintro e w' ⟨rfl,hb⟩;have HX:=zj HX hb;have HXT:=zj HXT hb;have ku0:=(HCg.out.keep hb HGg.out) 0 _ rfl;have j0:=(HINS.out.keep HXT.out HLT.out) 0 _ rfl;clear hb))
 go_ret3
 rw[E2.out];exact kw 4 (HW2.out.trans ((HY.out.trans (HX.out.mono HY.out.size)).mono HW2.out.size))):P:=h
theorem q7f{P:Prop}(h:P:=by
 go_wp2_with(first|(go_at_call 33;(with_reducible refine(QH HZR).mono ?_);rintro e w' ⟨rfl,hb⟩;have HX:=zj HX hb;have HXT:=zj HXT hb;have ku0:=(HCg.out.keep hb HGg.out) 0 _ rfl;have j0:=(HINS.out.keep HXT.out HLT.out) 0 _ rfl;clear hb))
 go_roundw;case rel=>exact⟨k+1,by omega,by go_num,HR2,HX⟩
 case measure=>simp[intOf];omega):P:=h
set_option maxHeartbeats 3200000 in
theorem qqr(m:za)(x:ze)(f pc:Nat)(op a b:Int)(st:List (Int×Int))(A:Option Addr)(cap:Nat)(h:zl)(w:World)(H:zp w w.heap.size h m)(hm:zP m)
  (hg:m.methods[f]? =some x) (hi:jb op a b=true) (hn:zQ m x op a b=true) (hpc:x.code[pc]? =some (op,a,b)) (hst:zd zi 2 w w.heap.size A cap st) (hs:st.length≤4000) (n18:¬op=18) (n19:¬op=19) (n33:¬op=33) (n6:¬op=6):
  Calls Tryz.prog 16 #[zr h m,.int .i64 f,.int .i64 pc,.slice A st.length cap] w (Zf (qr m x pc op a b st) w):=by
 have hk:f<m.methods.length:=(List.getElem?_eq_some_iff.mp hg).1;have hx:m.methods[f]=x:=(List.getElem?_eq_some_iff.mp hg).2;have hpl:pc<x.code.length:=(List.getElem?_eq_some_iff.mp hpc).1;have hpi:x.code[pc]=(op,a,b):=(List.getElem?_eq_some_iff.mp hpc).2;have hle:=H.methods.le;have hcap:=H.methods.cap;have slen:=hst.le;have scap:=hst.cap;have HRU:=zH (fun W hW=>q0a m x f op a b h W hW hm hg hi hn);obtain⟨o0,o1,a0,a1,b0,b1⟩:=Za hi;have HW:=zH (((zb w.heap.size w).alloc (zn _) (zq h m)));have HIM:=zH (H.now HW.out);have HBX:=zH (qf w h m);have HZ:Hid (w.heap.size<(w.alloc (zq h m)).heap.size):=zH (by simp);have HST:=zH ((hst.below_to zi.keeps HW.out (zn _)).keep' zi.keeps HW.out.size (fun _ _=>rfl));have HCL:Hid (m.classes.length≤1000):=zH (by have:=hm.fits.cl;omega);have HCO:Hid (x.code.length≤1048576):=zH (by have:=(hm.method (List.mem_of_getElem? hg)).fits.cl;omega);clear H hg hi hn hst hm hpc;go_enter Tryz.func16,Tryz.ntmps16;go_upto_region 1 with fail
 generalize w.alloc (zq h m)=w1 at*
 obtain⟨q0,q1,q2,q3,q4,q5,q6⟩:=HBX.out;obtain⟨ad,hx',eA,hab,hin,hc⟩:=jB HIM.out hk;rw[hx]at hin hc;have ccap:=hin.code.cap;have cle:=hin.code.le;have hco:=HCO.out;obtain⟨ac,eC,hac,i0,i1,i2⟩:=hin.code.row.at_ hpl;rw[hpi]at i0 i1 i2;dsimp only at i0 i1 i2;have HMC:=zH hc;have HAB:=zH (show(ad.add (f*8)).block<w1.heap.size by rw[zt];exact hab);have c4:=hc.c4;have HEA:=zH eA;have HEC:=zH eC;rw[eA]at q3;rw[eC]at c4;clear hin hc eA eC hab;have g0:¬(f:Int)<0:=by omega
 have g1:¬(m.methods.length:Int)≤f:=by omega
 have g2:¬(pc:Int)<0:=by omega
 have g3:¬(x.code.length:Int)≤pc:=by omega
 have hw1:IntKind.i64.wrap ((pc:Int)+1)=(pc:Int)+1:=IntWalk.i64_in _ (by omega);go_upto_region 4 with fail
 have HINS:=zH (qd w1 [.int .i64 op,.int .i64 a,.int .i64 b] 45);have HX:=zH ((zb w1.heap.size w1).alloc (zn _) (.cells #[.int .i64 op,.int .i64 a,.int .i64 b] 45));have HZ2:Hid (w1.heap.size<(w1.alloc (.cells #[.int .i64 op,.int .i64 a,.int .i64 b] 45)).heap.size):=zH (by simp);clear q0 q1 q2 q3 q4 q5 q6 c4 i0 i1 i2;change Code.wp _ _ _ _ (w1.alloc (.cells [Value.int .i64 op,.int .i64 a,.int .i64 b].toArray 45));generalize w1.alloc (.cells [Value.int .i64 op,.int .i64 a,.int .i64 b].toArray 45)=w2 at*
 have hs2:=HX.out.size;have HW2:=zH (HW.out.trans (HX.out.mono HW.out.size));have HBX2:=zH (HBX.out.keep HX.out HZ.out);have HZB:Hid (w.heap.size<w2.heap.size):=zH (Nat.lt_of_lt_of_le HZ.out hs2);have HIM2:=zH (HIM.out.now HX.out);have HST2:=zH ((HST.out.below_to zi.keeps HX.out (zn _)).keep' zi.keeps HX.out.size (fun _ _=>rfl));have HMC2:=zH (HMC.out.keep HX.out HAB.out);have HAB2:Hid ((ad.add (f*8)).block<w2.heap.size):=zH (Nat.lt_of_lt_of_le HAB.out hs2);have HLT:Hid (w1.heap.size<w2.heap.size):=zH HZ2.out;clear HBX HIM HST HMC HAB HZ hs2;go_upto_region 5 with fail
 have HN3:=zH (qd w2 [.int .i64 ((pc:Int)+1)] 3);have HY:=zH ((zb w2.heap.size w2).alloc (zn _) (.cells #[.int .i64 ((pc:Int)+1)] 3));have HZ3:Hid (w2.heap.size<(w2.alloc (.cells #[.int .i64 ((pc:Int)+1)] 3)).heap.size):=zH (by simp);change Code.wp _ _ _ _ (w2.alloc (.cells [Value.int .i64 ((pc:Int)+1)].toArray 3));generalize w2.alloc (.cells [Value.int .i64 ((pc:Int)+1)].toArray 3)=w3 at*
 have n0:=HN3.out 0 _ rfl;have HNX:Hid (zd zo 1 w3 w3.heap.size (some ⟨w2.heap.size,0,none⟩) 1 [(pc:Int)+1]):=zH (QD HZ3.out n0);obtain⟨q0,q1,q2,q3,q4,q5,q6⟩:=HBX2.out.keep HY.out HZB.out;rw[HEA.out]at q3;have c4:=(HMC2.out.keep HY.out HAB2.out).c4;rw[HEC.out]at c4;obtain⟨j0,j1,j2⟩:=zJ (HINS.out.keep HY.out HLT.out);have en:qE pc op a=[(pc:Int)+1]:=by simp[qE,n18,n19,n33]
 go_upto_region 11 with fail
 by_cases hov:(x.code.length:Int)≤(pc:Int)+1
 ·exact q7q
 have E0:=zH (QS (m:=m) (x:=x) (b:=b) (st:=st) (pc:=(pc:Int)) (op:=op) (a:=a) (by rw[en];simpa using hov) (fun q=>n6 q.1));rw[show qO m x op a b st=zE m x op a b by unfold qO;rw[if_neg (fun q=>n6 q.1)],show ju m x op a b st=zB m x op a b by unfold ju;rw[if_neg (fun q=>n6 q.1)],en]at E0;obtain⟨nl,hnl⟩:∃nl,[(pc:Int)+1]=nl:=⟨_,rfl⟩
 have hnll:nl.length=1:=by rw[←hnl];rfl
 have HNL:=zH hnll;go_region_held3 (fun w'=>w'.cell? ⟨w.heap.size,3,none⟩=some (.slice (some ad) m.methods.length h.c3)∧w'.cell? ⟨(ad.add (f*8)).block,(ad.add (f*8)).off+4,none⟩=some (.slice (some ac) x.code.length hx'.k4)∧w'.cell? ⟨w2.heap.size,0,none⟩=some (.int .i64 ((pc:Int)+1))) (first|exact⟨q3,c4,n0⟩) (first|fail)
 rename_i hHeld;clear hHeld;have HY:=zH HY.out.drew;have HNX:Hid (zd zo 1 w3.drew w3.drew.heap.size (some ⟨w2.heap.size,0,none⟩) 1 nl):=zH (hnl ▸ HNX.out.keep' zo.keeps (zn _) (fun _ _=>rfl));rw[hnl]at E0;clear hnl;generalize w3.drew=w4 at*
 clear q0 q1 q2 q3 q4 q5 q6 c4 j0 j1 j2 n0 HN3 HZ3;obtain⟨TK,hTK⟩:∃TK,zE m x op a b=TK:=⟨_,rfl⟩
 obtain⟨GV,hGV⟩:∃GV,zB m x op a b=GV:=⟨_,rfl⟩
 have HGL:Hid (GV.length≤2):=zH (by rw[←hGV];exact VZ m x op a b);rw[hTK,hGV]at HRU E0;clear hTK hGV;obtain⟨q0,q1,q2,q3,q4,q5,q6⟩:=HBX2.out.keep HY.out HZB.out;obtain⟨j0,j1,j2⟩:=zJ (HINS.out.keep HY.out HLT.out);go_upto_region 14 with(first|(go_at_call 32;go_loud ((with_reducible refine(HRU.out _ (HIM2.out.now HY.out)).mono ?_);rintro e w5 ⟨At,ct,Ag,cg,rfl,hT,hG,hb⟩;have HT:=zH hT;have HG:=zH hG;have HNX:=zH (HNX.out.keep' zo.keeps hb.size (fun _ hq=>hb.cell hq));have HY:=zj HY hb;clear hT hG hb;obtain⟨q0,q1,q2,q3,q4,q5,q6⟩:=HBX2.out.keep HY.out HZB.out;obtain⟨j0,j1,j2⟩:=zJ (HINS.out.keep HY.out HLT.out))))
 have htl:=HT.out.le;have htc:=HT.out.cap;have hgl:=HGL.out;by_cases hs1:st.length<TK.length
 ·exact VK
 have hw2:IntKind.i64.wrap ((st.length:Int) - (TK.length:Int))=((st.length - TK.length:Nat):Int):=by rw[IntWalk.i64_in _ (by omega)];omega
 obtain⟨d,hd⟩:∃d,st.length - TK.length=d:=⟨_,rfl⟩
 rw[hd]at hw2;have hw3:IntKind.i64.wrap ((d:Int)+(GV.length:Int))=(d:Int)+(GV.length:Int):=IntWalk.i64_in _ (by omega);by_cases hs2:8<d+GV.length
 ·exact VL
 have E1:=zH (E0.out.trans (q0d hd hs1 hs2));obtain⟨Z,hZ⟩:∃Z,(st.drop d).zip TK=Z:=⟨_,rfl⟩
 have hZl:Z.length=TK.length:=by rw[←hZ,List.length_zip,List.length_drop];omega
 have HZK:Hid (∀k (h1:d+k<st.length) (h2:k<TK.length) (h3:k<Z.length),Z[k]=(st[d+k],TK[k])):=zH (by subst hZ;intro k h1 h2 h3;simp);rw[hZ]at E1;have HZl:=zH hZl;clear E0 hZ hZl;have hdl:d+TK.length=st.length:=by omega
 have hs8:d≤8:=by omega
 go_wp2_with fail
 go_loopw [17] (fun i wr=>∃k:Nat,k≤TK.length∧i= .int .i64 k∧Hid (∀p ∈Z.take k,qk (zw m.classes) op p.1 p.2=true)∧Hid (Below w5.heap.size w5 wr)) (fun i _=>TK.length - (intOf i).toNat)
 case atStart=>exact⟨0,by omega,rfl,zH (by simp),zH (zb _ _)⟩
 case round=>
  clear q0 q1 q2 q3 q4 q5 q6 j0 j1 j2;obtain⟨k,hk,rfl,HN,HX⟩:=hrel;by_cases hlt:k<TK.length
  ·have hkZ:k<Z.length:=by rw[HZl.out];exact hlt
   obtain⟨j,hj⟩:∃j,d+k=j:=⟨_,rfl⟩
   have hdk:j<st.length:=by omega
   have hZk:=HZK.out k (by omega) hlt hkZ;simp only[hj]at hZk;obtain⟨ad1,rfl,hb1,s0,s1⟩:=HST2.out.row.at_ hdk;obtain⟨ad2,rfl,hb2,v0,v1⟩:=HT.out.row.at_ hlt;have HXT:=zH (HY.out.trans (HX.out.mono HY.out.size));have p0:=(HXT.out.cell (p:=ad1.add (j*2)) (by rw[zt];exact hb1)).trans s0;have p1:=(HXT.out.cell (p:=zc (ad1.add (j*2)) 1) (by show(ad1.add (j*2)).block<_;rw[zt];exact hb1)).trans s1;have r0:=(HX.out.cell (p:=ad2.add (k*2)) (by rw[zt];exact hb2)).trans v0;have r1:=(HX.out.cell (p:=zc (ad2.add (k*2)) 1) (by show(ad2.add (k*2)).block<_;rw[zt];exact hb2)).trans v1;have HNO:=zH (fun g:(fun p:(Int×Int)×(Int×Int)=>qk (zw m.classes) op p.1 p.2) Z[k]=false=>Zx (f:=(fun p:(Int×Int)×(Int×Int)=>qk (zw m.classes) op p.1 p.2)) hkZ g);have HYE:=zH (fun g:(fun p:(Int×Int)×(Int×Int)=>qk (zw m.classes) op p.1 p.2) Z[k]=true=>Zc (f:=(fun p:(Int×Int)×(Int×Int)=>qk (zw m.classes) op p.1 p.2)) hkZ HN.out g);rw[hZk]at HNO HYE;clear hZk;generalize st[j]=t at*
   generalize TK[k]=u at*
   obtain⟨t0,t1⟩:=t;obtain⟨u0,u1⟩:=u;dsimp only at p0 p1 r0 r1;have hw4:IntKind.i64.wrap ((d:Int)+(k:Int))=(j:Int):=by rw[IntWalk.i64_in _ (by omega)];omega
   clear s0 s1 v0 v1 hb1 hb2;go_upto_region 23 with fail
   go_cut [18,19] (fun s18 s19 wx=>∃g g':Nat,s18= .pointer (some ⟨g,0,none⟩)∧s19= .pointer (some ⟨g',0,none⟩)∧Hid (zT wx g [.int .i64 t0,.int .i64 t1])∧Hid (zT wx g' [.int .i64 u0,.int .i64 u1])∧Hid (Below wr.heap.size wr wx)∧Hid (g<wx.heap.size)∧Hid (g'<wx.heap.size))
   case first=>
    exact VO
   case rest=>
    obtain⟨g,g',rfl,rfl,HCg,HCh,HXk,HGg,HGh⟩:=hcut;have HX:=zH (HX.out.trans (HXk.out.mono HX.out.size));have HXT:=zH (HXT.out.trans (HXk.out.mono HXT.out.size));have HXc:=zH (zb wc.heap.size wc);clear HXk p0 p1 r0 r1;have ku0:=HCg.out 0 _ rfl;have ku1:=HCg.out 1 _ rfl;have kv0:=HCh.out 0 _ rfl;have kv1:=HCh.out 1 _ rfl;obtain⟨q0,q1,q2,q3,q4,q5,q6⟩:=HBX2.out.keep HXT.out HZB.out;have j0:=(HINS.out.keep HXT.out HLT.out) 0 _ rfl;by_cases hu0:u0=0
    ·subst hu0;exact VM
    have bu0:(u0==0)=false:=beq_eq_false_iff_ne.mpr hu0;obtain⟨r,hr⟩:∃r,qk (zw m.classes) op (t0,t1) (u0,u1)=r:=⟨_,rfl⟩
    by_cases hu4:u0=4
    ·subst hu4;have HD:=zH (jQ.symm.trans hr);obtain⟨z,hz⟩:∃z,jO t0=z:=⟨_,rfl⟩
     have HZR:=zH hz;cases z
     ·have E2:=zH (E1.out.trans (if_neg (by rw[HNO.out (jQ.trans (by rw[hz];rfl))];decide)));clear hz hr HD;exact q7g
     ·by_cases h34:op=34
      ·by_cases ht2:t0=2
       ·have E2:=zH (E1.out.trans (if_neg (by rw[HNO.out (jQ.trans (by rw[h34,ht2];rfl))];decide)));clear hz hr HD;have b34:(op==34)=true:=beq_iff_eq.mpr h34;have bt2:(t0==2)=true:=beq_iff_eq.mpr ht2;clear h34 ht2;exact q7g
       ·have HR2:=zH (HYE.out (jQ.trans (by rw[hz,decide_eq_false ht2,Bool.and_false];rfl)));clear hz hr HD;have b34:(op==34)=true:=beq_iff_eq.mpr h34;have bt2:(t0==2)=false:=beq_eq_false_iff_ne.mpr ht2;clear h34;exact q7f
      ·have HR2:=zH (HYE.out (jQ.trans (by rw[hz,decide_eq_false h34,Bool.false_and];rfl)));clear hz hr HD;have b34:(op==34)=false:=beq_eq_false_iff_ne.mpr h34;exact q7f
    ·exact VN
  ·exact q7r
end Go.Proofs.YtdbfllajopcccaaGreat
