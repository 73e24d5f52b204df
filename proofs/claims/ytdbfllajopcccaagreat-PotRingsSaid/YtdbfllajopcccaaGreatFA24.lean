import Derived.Test.YtdbfllajopcccaaGreatFA20
namespace Go.Proofs.YtdbfllajopcccaaGreat
set_option maxRecDepth 100000
set_option linter.unusedVariables false
set_option linter.unusedSimpArgs false
open Go.ChangeShapes Go.WideShapes Go.ChangeAt Go.RowKit
theorem q78{P:Prop}(h:P:=by
 go_wp2_with(first|(go_at_call 33;(with_reducible refine(QH HZR).mono ?_);rintro e w' ⟨rfl,hb⟩;have HX:=zj HX hb;have HXT:=zj HXT hb;have ku0:=(HCg.out.keep hb HGg.out) 0 _ rfl;have j0:=(HINS.out.keep HXT.out HLT.out) 0 _ rfl;clear hb))
 go_ret3
 rw[E2.out];exact kw 4 (HW2.out.trans ((HY.out.trans (HX.out.mono HY.out.size)).mono HW2.out.size))):P:=h
theorem q77{P:Prop}(h:P:=by
 go_wp2_with(first|(go_at_call 33;(with_reducible refine(QH HZR).mono ?_);rintro e w' ⟨rfl,hb⟩;have HX:=zj HX hb;have HXT:=zj HXT hb;have ku0:=(HCg.out.keep hb HGg.out) 0 _ rfl;have j0:=(HINS.out.keep HXT.out HLT.out) 0 _ rfl;clear hb))
 go_roundw;case rel=>exact⟨k+1,by omega,by go_num,HR2,HX⟩
 case measure=>simp[intOf];omega):P:=h
set_option maxHeartbeats 3200000 in
theorem qqn(m:za)(x:ze)(f pc:Nat)(op a b:Int)(st:List (Int×Int))(A:Option Addr)(cap:Nat)(h:zl)(w:World)(H:zp w w.heap.size h m)(hm:zP m)
  (hg:m.methods[f]? =some x) (hi:jb op a b=true) (hn:zQ m x op a b=true) (hpc:x.code[pc]? =some (op,a,b)) (hst:zd zi 2 w w.heap.size A cap st) (hs:st.length≤4000) (H19:Hid (op=19)):
  Calls Tryz.prog 16 #[zr h m,.int .i64 f,.int .i64 pc,.slice A st.length cap] w (Zf (qr m x pc op a b st) w):=by
 have hk:f<m.methods.length:=(List.getElem?_eq_some_iff.mp hg).1;have hx:m.methods[f]=x:=(List.getElem?_eq_some_iff.mp hg).2;have hpl:pc<x.code.length:=(List.getElem?_eq_some_iff.mp hpc).1;have hpi:x.code[pc]=(op,a,b):=(List.getElem?_eq_some_iff.mp hpc).2;have hle:=H.methods.le;have hcap:=H.methods.cap;have slen:=hst.le;have scap:=hst.cap;have HRU:=zH (fun W hW=>q0a m x f op a b h W hW hm hg hi hn);obtain⟨o0,o1,a0,a1,b0,b1⟩:=Za hi;have HW:=zH (((zb w.heap.size w).alloc (zn _) (zq h m)));have HIM:=zH (H.now HW.out);have HBX:=zH (qf w h m);have HZ:Hid (w.heap.size<(w.alloc (zq h m)).heap.size):=zH (by simp);have HST:=zH ((hst.below_to zi.keeps HW.out (zn _)).keep' zi.keeps HW.out.size (fun _ _=>rfl));have HCL:Hid (m.classes.length≤1000):=zH (by have:=hm.fits.cl;omega);have HCO:Hid (x.code.length≤1048576):=zH (by have:=(hm.method (List.mem_of_getElem? hg)).fits.cl;omega);clear H hg hi hn hst hm hpc;go_enter Tryz.func16,Tryz.ntmps16;go_upto_region 1 with fail
 generalize w.alloc (zq h m)=w1 at*
 obtain⟨q0,q1,q2,q3,q4,q5,q6⟩:=HBX.out;obtain⟨ad,hx',eA,hab,hin,hc⟩:=jB HIM.out hk;rw[hx]at hin hc;have ccap:=hin.code.cap;have cle:=hin.code.le;have hco:=HCO.out;obtain⟨ac,eC,hac,i0,i1,i2⟩:=hin.code.row.at_ hpl;rw[hpi]at i0 i1 i2;dsimp only at i0 i1 i2;have HMC:=zH hc;have HAB:=zH (show(ad.add (f*8)).block<w1.heap.size by rw[zt];exact hab);have c4:=hc.c4;have HEA:=zH eA;have HEC:=zH eC;rw[eA]at q3;rw[eC]at c4;clear hin hc eA eC hab;have g0:¬(f:Int)<0:=by omega
 have g1:¬(m.methods.length:Int)≤f:=by omega
 have g2:¬(pc:Int)<0:=by omega
 have g3:¬(x.code.length:Int)≤pc:=by omega
 have hw1:IntKind.i64.wrap ((pc:Int)+1)=(pc:Int)+1:=IntWalk.i64_in _ (by omega);go_upto_region 4 with fail
 have HINS:=zH (qd w1 [.int .i64 op,.int .i64 a,.int .i64 b] 45);have HX:=zH ((zb w1.heap.size w1).alloc (zn _) (.cells #[.int .i64 op,.int .i64 a,.int .i64 b] 45));have HZ2:Hid (w1.heap.size<(w1.alloc (.cells #[.int .i64 op,.int .i64 a,.int .i64 b] 45)).heap.size):=zH (by simp);clear q0 q1 q2 q3 q4 q5 q6 c4 i0 i1 i2;change Code.wp _ _ _ _ (w1.alloc (.cells [Value.int .i64 op,.int .i64 a,.int .i64 b].toArray 45));generalize w1.alloc (.cells [Value.int .i64 op,.int .i64 a,.int .i64 b].toArray 45)=w2 at*
 have hs2:=HX.out.size;have HW2:=zH (HW.out.trans (HX.out.mono HW.out.size));have HBX2:=zH (HBX.out.keep HX.out HZ.out);have HZB:Hid (w.heap.size<w2.heap.size):=zH (Nat.lt_of_lt_of_le HZ.out hs2);have HIM2:=zH (HIM.out.now HX.out);have HST2:=zH ((HST.out.below_to zi.keeps HX.out (zn _)).keep' zi.keeps HX.out.size (fun _ _=>rfl));have HMC2:=zH (HMC.out.keep HX.out HAB.out);have HAB2:Hid ((ad.add (f*8)).block<w2.heap.size):=zH (Nat.lt_of_lt_of_le HAB.out hs2);have HLT:Hid (w1.heap.size<w2.heap.size):=zH HZ2.out;clear HBX HIM HST HMC HAB HZ hs2;go_upto_region 5 with fail
 have HN3:=zH (qd w2 [.int .i64 ((pc:Int)+1)] 3);have HY:=zH ((zb w2.heap.size w2).alloc (zn _) (.cells #[.int .i64 ((pc:Int)+1)] 3));have HZ3:Hid (w2.heap.size<(w2.alloc (.cells #[.int .i64 ((pc:Int)+1)] 3)).heap.size):=zH (by simp);have HOW:Hid ((w2.alloc (.cells [Value.int .i64 ((pc:Int)+1)].toArray 3)).ownsRow w2.heap.size 3 1 (.slice (some ⟨w2.heap.size,0,none⟩) 1 1) 1 [.int .i64 ((pc:Int)+1)]):=zH (qoe w2 (.int .i64 ((pc:Int)+1)) 3);change Code.wp _ _ _ _ (w2.alloc (.cells [Value.int .i64 ((pc:Int)+1)].toArray 3));generalize w2.alloc (.cells [Value.int .i64 ((pc:Int)+1)].toArray 3)=w2b at*
 have n0:=HN3.out 0 _ rfl;have HNX:Hid (zd zo 1 w2b w2b.heap.size (some ⟨w2.heap.size,0,none⟩) 1 [(pc:Int)+1]):=zH (QD HZ3.out n0);obtain⟨q0,q1,q2,q3,q4,q5,q6⟩:=HBX2.out.keep HY.out HZB.out;rw[HEA.out]at q3;have c4:=(HMC2.out.keep HY.out HAB2.out).c4;rw[HEC.out]at c4;obtain⟨j0,j1,j2⟩:=zJ (HINS.out.keep HY.out HLT.out);have n6:¬op=6:=by rw[H19.out];decide
 have n18:¬op=18:=by rw[H19.out];decide
 have b19:(op==19)=true:=beq_iff_eq.mpr H19.out;have en:qE pc op a=[(pc:Int)+1,a]:=by rw[H19.out];rfl
 have n33:¬op=33:=by rw[H19.out];decide
 obtain⟨i0,hi,hz0,hz1,hz2⟩:=info_parts kp;have h23:=HY.out.size;go_upto_region 9 with(first
  |(at_builtin;refine wpList_append_own _ rfl _ _ 26 rfl w2.heap.size 3 i0 (.int .i64 0) 1 8 Tryz.underlying26 hi hz0 hz1 hz2 rfl (by decide) _ _ _ rfl (HOW.out.alloc _) ⟨_,0,none⟩ 1 1 [.int .i64 a] rfl rfl (Vu _ _) (Vo _) (by unfold maxLen;omega) (by omega) (by simp;omega) ?_;intro v' w3 hown' hgrow _;have hR:=Jt (pre:=[(pc:Int)+1]) HOW.out h23 HY.out hown' hgrow;have HY:=zH hR.2;obtain⟨g9,c9,rfl,hS9,n0⟩:=qr1 hR.1;have HG9:Hid (w2.heap.size≤g9):=zH (hR.1.lt g9 rfl).1;have HNX:=zH hS9;clear hown' hgrow hR hS9))
 clear q0 q1 q2 q3 q4 q5 q6 c4 j0 j1 j2;obtain⟨q0,q1,q2,q3,q4,q5,q6⟩:=HBX2.out.keep HY.out HZB.out;rw[HEA.out]at q3;have c4:=(HMC2.out.keep HY.out HAB2.out).c4;rw[HEC.out]at c4;obtain⟨j0,j1,j2⟩:=zJ (HINS.out.keep HY.out HLT.out);go_upto_region 11 with fail
 by_cases hov:(x.code.length:Int)≤(pc:Int)+1
 ·have E0:=zH (q4g (m:=m) (x:=x) (b:=b) (st:=st) en hov);go_region_held3 (fun w'=>w'.cell? ⟨w.heap.size,3,none⟩=some (.slice (some ad) m.methods.length h.c3)∧w'.cell? ⟨(ad.add (f*8)).block,(ad.add (f*8)).off+4,none⟩=some (.slice (some ac) x.code.length hx'.k4)∧w'.cell? ⟨g9,0,none⟩=some (.int .i64 ((pc:Int)+1))) (first|exact⟨q3,c4,n0⟩) (first|fail)
  all_goals
   go_wp2_with fail
   go_ret3
   rw[E0.out];exact kw 4 (HW2.out.trans (HY.out.drew.mono HW2.out.size))
 have E0:=zH (QS (m:=m) (x:=x) (b:=b) (st:=st) (pc:=(pc:Int)) (op:=op) (a:=a) (by rw[en];simpa using hov) (fun q=>n6 q.1));rw[show qO m x op a b st=zE m x op a b by unfold qO;rw[if_neg (fun q=>n6 q.1)],show ju m x op a b st=zB m x op a b by unfold ju;rw[if_neg (fun q=>n6 q.1)],en]at E0;obtain⟨nl,hnl⟩:∃nl,[(pc:Int)+1,a]=nl:=⟨_,rfl⟩
 have hnll:nl.length=2:=by rw[←hnl];rfl
 have HNL:=zH hnll;go_region_held3 (fun w'=>w'.cell? ⟨w.heap.size,3,none⟩=some (.slice (some ad) m.methods.length h.c3)∧w'.cell? ⟨(ad.add (f*8)).block,(ad.add (f*8)).off+4,none⟩=some (.slice (some ac) x.code.length hx'.k4)∧w'.cell? ⟨g9,0,none⟩=some (.int .i64 ((pc:Int)+1))) (first|exact⟨q3,c4,n0⟩) (first|fail)
 rename_i hHeld;clear hHeld;have HY:=zH HY.out.drew;have HNX:Hid (zd zo 1 w3.drew w3.drew.heap.size (some ⟨g9,0,none⟩) c9 nl):=zH (hnl ▸ HNX.out.keep' zo.keeps (zn _) (fun _ _=>rfl));rw[hnl]at E0;clear hnl;generalize w3.drew=w4 at*
 clear q0 q1 q2 q3 q4 q5 q6 c4 j0 j1 j2 n0 HN3 HZ3;obtain⟨TK,hTK⟩:∃TK,zE m x op a b=TK:=⟨_,rfl⟩
 obtain⟨GV,hGV⟩:∃GV,zB m x op a b=GV:=⟨_,rfl⟩
 have HGL:Hid (GV.length≤2):=zH (by rw[←hGV];exact VZ m x op a b);rw[hTK,hGV]at HRU E0;clear hTK hGV;obtain⟨q0,q1,q2,q3,q4,q5,q6⟩:=HBX2.out.keep HY.out HZB.out;obtain⟨j0,j1,j2⟩:=zJ (HINS.out.keep HY.out HLT.out);go_upto_region 14 with(first|(go_at_call 32;go_loud ((with_reducible refine(HRU.out _ (HIM2.out.now HY.out)).mono ?_);rintro e w5 ⟨At,ct,Ag,cg,rfl,hT,hG,hb⟩;have HT:=zH hT;have HG:=zH hG;have HNX:=zH (HNX.out.keep' zo.keeps hb.size (fun _ hq=>hb.cell hq));have HY:=zj HY hb;clear hT hG hb;obtain⟨q0,q1,q2,q3,q4,q5,q6⟩:=HBX2.out.keep HY.out HZB.out;obtain⟨j0,j1,j2⟩:=zJ (HINS.out.keep HY.out HLT.out))))
 have htl:=HT.out.le;have htc:=HT.out.cap;have hgl:=HGL.out;by_cases hs1:st.length<TK.length
 ·exact VK
 have hw2:IntKind.i64.wrap ((st.length:Int) - (TK.length:Int))=((st.length - TK.length:Nat):Int):=by rw[IntWalk.i64_in _ (by omega)];omega
 obtain⟨d,hd⟩:∃d,st.length - TK.length=d:=⟨_,rfl⟩
 rw[hd]at hw2;have hw3:IntKind.i64.wrap ((d:Int)+(GV.length:Int))=(d:Int)+(GV.length:Int):=IntWalk.i64_in _ (by omega);by_cases hs2:8<d+GV.length
 ·exact VL
 have E1:=zH (E0.out.trans (q0d hd hs1 hs2));obtain⟨Z,hZ⟩:∃Z,(st.drop d).zip TK=Z:=⟨_,rfl⟩
 have hZl:Z.length=TK.length:=by rw[←hZ,List.length_zip,List.length_drop];omega
 have HZK:Hid (∀k (h1:d+k<st.length) (h2:k<TK.length) (h3:k<Z.length),Z[k]=(st[d+k],TK[k])):=zH (by subst hZ;intro k h1 h2 h3;simp);rw[hZ]at E1;have HZl:=zH hZl;clear E0 hZ hZl;have hdl:d+TK.length=st.length:=by omega
 have hs8:d≤8:=by omega
 go_wp2_with fail
 go_loopw [17] (fun i wr=>∃k:Nat,k≤TK.length∧i= .int .i64 k∧Hid (∀p ∈Z.take k,qk (zw m.classes) op p.1 p.2=true)∧Hid (Below w5.heap.size w5 wr)) (fun i _=>TK.length - (intOf i).toNat)
 case atStart=>exact⟨0,by omega,rfl,zH (by simp),zH (zb _ _)⟩
 case round=>
  clear q0 q1 q2 q3 q4 q5 q6 j0 j1 j2;obtain⟨k,hk,rfl,HN,HX⟩:=hrel;by_cases hlt:k<TK.length
  ·have hkZ:k<Z.length:=by rw[HZl.out];exact hlt
   obtain⟨j,hj⟩:∃j,d+k=j:=⟨_,rfl⟩
   have hdk:j<st.length:=by omega
   have hZk:=HZK.out k (by omega) hlt hkZ;simp only[hj]at hZk;obtain⟨ad1,rfl,hb1,s0,s1⟩:=HST2.out.row.at_ hdk;obtain⟨ad2,rfl,hb2,v0,v1⟩:=HT.out.row.at_ hlt;have HXT:=zH (HY.out.trans (HX.out.mono HY.out.size));have p0:=(HXT.out.cell (p:=ad1.add (j*2)) (by rw[zt];exact hb1)).trans s0;have p1:=(HXT.out.cell (p:=zc (ad1.add (j*2)) 1) (by show(ad1.add (j*2)).block<_;rw[zt];exact hb1)).trans s1;have r0:=(HX.out.cell (p:=ad2.add (k*2)) (by rw[zt];exact hb2)).trans v0;have r1:=(HX.out.cell (p:=zc (ad2.add (k*2)) 1) (by show(ad2.add (k*2)).block<_;rw[zt];exact hb2)).trans v1;have HNO:=zH (fun g:(fun p:(Int×Int)×(Int×Int)=>qk (zw m.classes) op p.1 p.2) Z[k]=false=>Zx (f:=(fun p:(Int×Int)×(Int×Int)=>qk (zw m.classes) op p.1 p.2)) hkZ g);have HYE:=zH (fun g:(fun p:(Int×Int)×(Int×Int)=>qk (zw m.classes) op p.1 p.2) Z[k]=true=>Zc (f:=(fun p:(Int×Int)×(Int×Int)=>qk (zw m.classes) op p.1 p.2)) hkZ HN.out g);rw[hZk]at HNO HYE;clear hZk;generalize st[j]=t at*
   generalize TK[k]=u at*
   obtain⟨t0,t1⟩:=t;obtain⟨u0,u1⟩:=u;dsimp only at p0 p1 r0 r1;have hw4:IntKind.i64.wrap ((d:Int)+(k:Int))=(j:Int):=by rw[IntWalk.i64_in _ (by omega)];omega
   clear s0 s1 v0 v1 hb1 hb2;go_upto_region 23 with fail
   go_cut [18,19] (fun s18 s19 wx=>∃g g':Nat,s18= .pointer (some ⟨g,0,none⟩)∧s19= .pointer (some ⟨g',0,none⟩)∧Hid (zT wx g [.int .i64 t0,.int .i64 t1])∧Hid (zT wx g' [.int .i64 u0,.int .i64 u1])∧Hid (Below wr.heap.size wr wx)∧Hid (g<wx.heap.size)∧Hid (g'<wx.heap.size))
   case first=>
    exact VO
   case rest=>
    obtain⟨g,g',rfl,rfl,HCg,HCh,HXk,HGg,HGh⟩:=hcut;have HX:=zH (HX.out.trans (HXk.out.mono HX.out.size));have HXT:=zH (HXT.out.trans (HXk.out.mono HXT.out.size));have HXc:=zH (zb wc.heap.size wc);clear HXk p0 p1 r0 r1;have ku0:=HCg.out 0 _ rfl;have ku1:=HCg.out 1 _ rfl;have kv0:=HCh.out 0 _ rfl;have kv1:=HCh.out 1 _ rfl;obtain⟨q0,q1,q2,q3,q4,q5,q6⟩:=HBX2.out.keep HXT.out HZB.out;have j0:=(HINS.out.keep HXT.out HLT.out) 0 _ rfl;by_cases hu0:u0=0
    ·subst hu0;exact VM
    have bu0:(u0==0)=false:=beq_eq_false_iff_ne.mpr hu0;obtain⟨r,hr⟩:∃r,qk (zw m.classes) op (t0,t1) (u0,u1)=r:=⟨_,rfl⟩
    by_cases hu4:u0=4
    ·subst hu4;have HD:=zH (jQ.symm.trans hr);obtain⟨z,hz⟩:∃z,jO t0=z:=⟨_,rfl⟩
     have HZR:=zH hz;cases z
     ·have E2:=zH (E1.out.trans (if_neg (by rw[HNO.out (jQ.trans (by rw[hz];rfl))];decide)));clear hz hr HD;exact q78
     ·by_cases h34:op=34
      ·by_cases ht2:t0=2
       ·have E2:=zH (E1.out.trans (if_neg (by rw[HNO.out (jQ.trans (by rw[h34,ht2];rfl))];decide)));clear hz hr HD;have b34:(op==34)=true:=beq_iff_eq.mpr h34;have bt2:(t0==2)=true:=beq_iff_eq.mpr ht2;clear h34 ht2;exact q78
       ·have HR2:=zH (HYE.out (jQ.trans (by rw[hz,decide_eq_false ht2,Bool.and_false];rfl)));clear hz hr HD;have b34:(op==34)=true:=beq_iff_eq.mpr h34;have bt2:(t0==2)=false:=beq_eq_false_iff_ne.mpr ht2;clear h34;exact q77
      ·have HR2:=zH (HYE.out (jQ.trans (by rw[hz,decide_eq_false h34,Bool.false_and];rfl)));clear hz hr HD;have b34:(op==34)=false:=beq_eq_false_iff_ne.mpr h34;exact q77
    ·exact VN
  ·obtain rfl:k=TK.length:=by omega
   obtain⟨q0,q1,q2,q3,q4,q5,q6⟩:=HBX2.out.keep (HY.out.trans (HX.out.mono HY.out.size)) HZB.out;have E2:=zH (E1.out.trans (if_pos (ZO HN.out (by rw[HZl.out];exact zn _))));obtain⟨i0,hi,hz0,hz1,hz2⟩:=jg kK;have HXT:=zH (HY.out.trans (HX.out.mono HY.out.size));have HB0:=zH ((zb wr.heap.size wr).alloc (zn _) (.cells #[] 39));have HO0:=zH (ka wr 39 2);have HA:=zH (((vl (HST2.out.row.take_ d)).below_to (HXT.out.trans (HB0.out.mono HXT.out.size)) (zn _)):zz (wr.alloc (.cells #[] 39)) w2.heap.size A (zD (st.take d)));have htd:(st.take d).length=d:=by rw[List.length_take];omega
   have hdc:d≤cap:=by omega
   have HE:=zH E2.out;rcases A with _|ad0
   ·have hst0:st.length=0:=Nat.eq_zero_of_not_pos fun q=>by obtain⟨_,e,_⟩:=HST2.out.row.at_ q;exact absurd e (by simp)
    obtain rfl:st=[]:=List.eq_nil_of_length_eq_zero hst0;obtain rfl:d=0:=by omega
    go_wp2_with(first
     |(at_builtin;refine ja rfl _ _ 23 rfl wr.heap.size 39 i0 (.agg #[.int .i64 0,.int .i64 0]) 2 16 Tryz.underlying23 hi hz0 hz1 hz2 rfl (by decide) _ 0 [] rfl HO0.out none 0 _ _ (zD (([]:List (Int×Int)).take 0)) rfl rfl HA.out (jt _) (by unfold maxLen;omega) (by omega) HB0.out.size ?_;intro v6 w6 hO6 hG6;have HB6:=zH (qA HB0.out HO0.out HB0.out.size hG6);have HO6:=zH hO6;have HG6:=zH (((vl HG.out.row).below_to (HX.out.trans (HB6.out.mono HX.out.size)) (zn _)):zz w6 w5.heap.size Ag (zD GV));clear hO6 hG6)
     |(at_builtin;refine ja rfl _ _ 23 rfl wr.heap.size 39 i0 (.agg #[.int .i64 0,.int .i64 0]) 2 16 Tryz.underlying23 hi hz0 hz1 hz2 rfl (by decide) _ (0+0) ([]++zD (([]:List (Int×Int)).take 0)) rfl HO6.out Ag GV.length cg _ (zD GV) (vz _) rfl HG6.out (jt _) (by unfold maxLen;omega) (by omega) HB6.out.size ?_;intro v7 w7 hO7 hG7;have HB7:=zH (qA HB6.out HO6.out HB6.out.size hG7);have HO7:=zH hO7;clear hO7 hG7))
    have hO:w7.ownsRow wr.heap.size 39 2 v7 (([]:List (Int×Int)).take 0++GV).length (zD (([]:List (Int×Int)).take 0++GV)):=by
     have:=HO7.out;rw[List.length_append];unfold zD at this⊢
     rw[List.flatMap_append];simpa using this
    obtain⟨A7,c7,rfl,hS,_⟩:=vy hO;go_ret3
    rw[HE.out];have hB:=HY.out.trans ((HX.out.trans (HB7.out.mono HX.out.size)).mono HY.out.size);refine⟨A7,c7,some ⟨g9,0,none⟩,c9,?_,hS,HNX.out.keep' zo.keeps (Nat.le_trans HX.out.size HB7.out.size) (fun q hq=>((HX.out.trans (HB7.out.mono HX.out.size)).cell hq)),HW2.out.trans (hB.mono HW2.out.size),JM (Nat.le_trans HW2.out.size HG9.out)⟩;show _=Ending.returned (.tuple #[.slice A7 (([]:List (Int×Int)).take 0++GV).length c7,.slice (some ⟨g9,0,none⟩) nl.length c9,.int .i64 0]);rw[HNL.out];rfl
   ·go_wp2_with(first
     |(at_builtin;refine ja rfl _ _ 23 rfl wr.heap.size 39 i0 (.agg #[.int .i64 0,.int .i64 0]) 2 16 Tryz.underlying23 hi hz0 hz1 hz2 rfl (by decide) _ 0 [] rfl HO0.out (some ad0) d cap _ (zD (st.take d)) (by rw[vz,htd]) rfl HA.out (jt _) (by unfold maxLen;omega) (by omega) HB0.out.size ?_;intro v6 w6 hO6 hG6;have HB6:=zH (qA HB0.out HO0.out HB0.out.size hG6);have HO6:=zH hO6;have HG6:=zH (((vl HG.out.row).below_to (HX.out.trans (HB6.out.mono HX.out.size)) (zn _)):zz w6 w5.heap.size Ag (zD GV));clear hO6 hG6)
     |(at_builtin;refine ja rfl _ _ 23 rfl wr.heap.size 39 i0 (.agg #[.int .i64 0,.int .i64 0]) 2 16 Tryz.underlying23 hi hz0 hz1 hz2 rfl (by decide) _ (0+d) ([]++zD (st.take d)) rfl HO6.out Ag GV.length cg _ (zD GV) (vz _) rfl HG6.out (jt _) (by unfold maxLen;omega) (by omega) HB6.out.size ?_;intro v7 w7 hO7 hG7;have HB7:=zH (qA HB6.out HO6.out HB6.out.size hG7);have HO7:=zH hO7;clear hO7 hG7))
    have hO:w7.ownsRow wr.heap.size 39 2 v7 (st.take d++GV).length (zD (st.take d++GV)):=by
     have:=HO7.out;rw[List.length_append,htd];unfold zD at this⊢
     rw[List.flatMap_append];simpa using this
    obtain⟨A7,c7,rfl,hS,_⟩:=vy hO;go_ret3
    rw[HE.out];have hB:=HY.out.trans ((HX.out.trans (HB7.out.mono HX.out.size)).mono HY.out.size);refine⟨A7,c7,some ⟨g9,0,none⟩,c9,?_,hS,HNX.out.keep' zo.keeps (Nat.le_trans HX.out.size HB7.out.size) (fun q hq=>((HX.out.trans (HB7.out.mono HX.out.size)).cell hq)),HW2.out.trans (hB.mono HW2.out.size),JM (Nat.le_trans HW2.out.size HG9.out)⟩;show _=Ending.returned (.tuple #[.slice A7 (st.take d++GV).length c7,.slice (some ⟨g9,0,none⟩) nl.length c9,.int .i64 0]);rw[HNL.out];rfl
end Go.Proofs.YtdbfllajopcccaaGreat
