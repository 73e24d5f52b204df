import Derived.Test.YtdbfllajopcccaaGreatFA20
import Derived.Test.YtdbfllajopcccaaGreatFA19
namespace Go.Proofs.YtdbfllajopcccaaGreat
set_option maxRecDepth 100000
set_option linter.unusedVariables false
set_option linter.unusedSimpArgs false
open Go.ChangeShapes Go.WideShapes Go.ChangeAt Go.RowKit
theorem q7c{P:Prop}(h:P:=by
 go_wp2_with(first|(go_at_call 33;(with_reducible refine(QH HZR).mono ?_);rintro e w' ⟨rfl,hb⟩;have HX:=zj HX hb;have HXT:=zj HXT hb;have ku0:=(HCg.out.keep hb HGg.out) 0 _ rfl;have j0:=(HINS.out.keep HXT.out HLT.out) 0 _ rfl;clear hb))
 go_ret3
 rw[E2.out];exact kw 4 (HW2.out.trans ((HY.out.trans (HX.out.mono HY.out.size)).mono HW2.out.size))):P:=h
theorem q7b{P:Prop}(h:P:=by
 go_wp2_with(first|(go_at_call 33;(with_reducible refine(QH HZR).mono ?_);rintro e w' ⟨rfl,hb⟩;have HX:=zj HX hb;have HXT:=zj HXT hb;have ku0:=(HCg.out.keep hb HGg.out) 0 _ rfl;have j0:=(HINS.out.keep HXT.out HLT.out) 0 _ rfl;clear hb))
 go_roundw;case rel=>exact⟨k+1,by omega,by go_num,HR2,HX⟩
 case measure=>simp[intOf];omega):P:=h
set_option maxHeartbeats 3200000 in
theorem qqp(m:za)(x:ze)(f pc:Nat)(op a b:Int)(st:List (Int×Int))(A:Option Addr)(cap:Nat)(h:zl)(w:World)(H:zp w w.heap.size h m)(hm:zP m)
  (hg:m.methods[f]? =some x) (hi:jb op a b=true) (hn:zQ m x op a b=true) (hpc:x.code[pc]? =some (op,a,b)) (hst:zd zi 2 w w.heap.size A cap st) (hs:st.length≤4000) (H18:Hid (op=18)):
  Calls Tryz.prog 16 #[zr h m,.int .i64 f,.int .i64 pc,.slice A st.length cap] w (Zf (qr m x pc op a b st) w):=by
 have hk:f<m.methods.length:=(List.getElem?_eq_some_iff.mp hg).1;have hx:m.methods[f]=x:=(List.getElem?_eq_some_iff.mp hg).2;have hpl:pc<x.code.length:=(List.getElem?_eq_some_iff.mp hpc).1;have hpi:x.code[pc]=(op,a,b):=(List.getElem?_eq_some_iff.mp hpc).2;have hle:=H.methods.le;have hcap:=H.methods.cap;have slen:=hst.le;have scap:=hst.cap;have HRU:=zH (fun W hW=>q0a m x f op a b h W hW hm hg hi hn);obtain⟨o0,o1,a0,a1,b0,b1⟩:=Za hi;have HW:=zH (((zb w.heap.size w).alloc (zn _) (zq h m)));have HIM:=zH (H.now HW.out);have HBX:=zH (qf w h m);have HZ:Hid (w.heap.size<(w.alloc (zq h m)).heap.size):=zH (by simp);have HST:=zH ((hst.below_to zi.keeps HW.out (zn _)).keep' zi.keeps HW.out.size (fun _ _=>rfl));have HCL:Hid (m.classes.length≤1000):=zH (by have:=hm.fits.cl;omega);have HCO:Hid (x.code.length≤1048576):=zH (by have:=(hm.method (List.mem_of_getElem? hg)).fits.cl;omega);clear H hg hi hn hst hm hpc;go_enter Tryz.func16,Tryz.ntmps16;go_upto_region 1 with fail
 generalize w.alloc (zq h m)=w1 at*
 obtain⟨q0,q1,q2,q3,q4,q5,q6⟩:=HBX.out;obtain⟨ad,hx',eA,hab,hin,hc⟩:=jB HIM.out hk;rw[hx]at hin hc;have ccap:=hin.code.cap;have cle:=hin.code.le;have hco:=HCO.out;obtain⟨ac,eC,hac,i0,i1,i2⟩:=hin.code.row.at_ hpl;rw[hpi]at i0 i1 i2;dsimp only at i0 i1 i2;have HMC:=zH hc;have HAB:=zH (show(ad.add (f*8)).block<w1.heap.size by rw[zt];exact hab);have c4:=hc.c4;have HEA:=zH eA;have HEC:=zH eC;rw[eA]at q3;rw[eC]at c4;clear hin hc eA eC hab;have g0:¬(f:Int)<0:=by omega
 have g1:¬(m.methods.length:Int)≤f:=by omega
 have g2:¬(pc:Int)<0:=by omega
 have g3:¬(x.code.length:Int)≤pc:=by omega
 have hw1:IntKind.i64.wrap ((pc:Int)+1)=(pc:Int)+1:=IntWalk.i64_in _ (by omega);go_upto_region 4 with fail
 have HINS:=zH (qd w1 [.int .i64 op,.int .i64 a,.int .i64 b] 45);have HX:=zH ((zb w1.heap.size w1).alloc (zn _) (.cells #[.int .i64 op,.int .i64 a,.int .i64 b] 45));have HZ2:Hid (w1.heap.size<(w1.alloc (.cells #[.int .i64 op,.int .i64 a,.int .i64 b] 45)).heap.size):=zH (by simp);clear q0 q1 q2 q3 q4 q5 q6 c4 i0 i1 i2;change Code.wp _ _ _ _ (w1.alloc (.cells [Value.int .i64 op,.int .i64 a,.int .i64 b].toArray 45));generalize w1.alloc (.cells [Value.int .i64 op,.int .i64 a,.int .i64 b].toArray 45)=w2 at*
 have hs2:=HX.out.size;have HW2:=zH (HW.out.trans (HX.out.mono HW.out.size));have HBX2:=zH (HBX.out.keep HX.out HZ.out);have HZB:Hid (w.heap.size<w2.heap.size):=zH (Nat.lt_of_lt_of_le HZ.out hs2);have HIM2:=zH (HIM.out.now HX.out);have HST2:=zH ((HST.out.below_to zi.keeps HX.out (zn _)).keep' zi.keeps HX.out.size (fun _ _=>rfl));have HMC2:=zH (HMC.out.keep HX.out HAB.out);have HAB2:Hid ((ad.add (f*8)).block<w2.heap.size):=zH (Nat.lt_of_lt_of_le HAB.out hs2);have HLT:Hid (w1.heap.size<w2.heap.size):=zH HZ2.out;clear HBX HIM HST HMC HAB HZ hs2;go_upto_region 5 with fail
 have HN3:=zH (qd w2 [.int .i64 ((pc:Int)+1)] 3);have HY:=zH ((zb w2.heap.size w2).alloc (zn _) (.cells #[.int .i64 ((pc:Int)+1)] 3));have HZ3:Hid (w2.heap.size<(w2.alloc (.cells #[.int .i64 ((pc:Int)+1)] 3)).heap.size):=zH (by simp);change Code.wp _ _ _ _ (w2.alloc (.cells [Value.int .i64 ((pc:Int)+1)].toArray 3));have HZ2B:Hid (w2.heap.size≤(w2.alloc (.cells [Value.int .i64 ((pc:Int)+1)].toArray 3)).heap.size):=zH (by simp);generalize w2.alloc (.cells [Value.int .i64 ((pc:Int)+1)].toArray 3)=w2b at*
 have n0:=HN3.out 0 _ rfl;have HNX:Hid (zd zo 1 w2b w2b.heap.size (some ⟨w2.heap.size,0,none⟩) 1 [(pc:Int)+1]):=zH (QD HZ3.out n0);obtain⟨q0,q1,q2,q3,q4,q5,q6⟩:=HBX2.out.keep HY.out HZB.out;rw[HEA.out]at q3;have c4:=(HMC2.out.keep HY.out HAB2.out).c4;rw[HEC.out]at c4;obtain⟨j0,j1,j2⟩:=zJ (HINS.out.keep HY.out HLT.out);have n6:¬op=6:=by rw[H18.out];decide
 have b18:(op==18)=true:=beq_iff_eq.mpr H18.out;have en:qE pc op a=[a]:=by rw[H18.out];rfl
 have n19:¬op=19:=by rw[H18.out];decide
 have n33:¬op=33:=by rw[H18.out];decide
 go_upto_region 7 with fail
 clear HN3 HZ3 HNX;have HN3:=zH (qd w2b [.int .i64 a] 3);have HY:=zH (HY.out.alloc HY.out.size (.cells #[.int .i64 a] 3));have HZ3:Hid (w2b.heap.size<(w2b.alloc (.cells #[.int .i64 a] 3)).heap.size):=zH (by simp);have h23:=HY.out.size;change Code.wp _ _ _ _ (w2b.alloc (.cells [Value.int .i64 a].toArray 3));generalize w2b.alloc (.cells [Value.int .i64 a].toArray 3)=w3 at*
 have n0:=HN3.out 0 _ rfl;have HNX:Hid (zd zo 1 w3 w3.heap.size (some ⟨w2b.heap.size,0,none⟩) 1 [a]):=zH (QD HZ3.out n0);obtain⟨q0,q1,q2,q3,q4,q5,q6⟩:=HBX2.out.keep HY.out HZB.out;rw[HEA.out]at q3;have c4:=(HMC2.out.keep HY.out HAB2.out).c4;rw[HEC.out]at c4;obtain⟨j0,j1,j2⟩:=zJ (HINS.out.keep HY.out HLT.out);go_upto_region 11 with fail
 by_cases hov:(x.code.length:Int)≤a
 ·have E0:=zH (q4g (m:=m) (x:=x) (b:=b) (st:=st) en hov);go_region_held3 (fun w'=>w'.cell? ⟨w.heap.size,3,none⟩=some (.slice (some ad) m.methods.length h.c3)∧w'.cell? ⟨(ad.add (f*8)).block,(ad.add (f*8)).off+4,none⟩=some (.slice (some ac) x.code.length hx'.k4)∧w'.cell? ⟨w2b.heap.size,0,none⟩=some (.int .i64 (a))) (first|exact⟨q3,c4,n0⟩) (first|fail)
  all_goals
   go_wp2_with fail
   go_ret3
   rw[E0.out];exact kw 4 (HW2.out.trans (HY.out.drew.mono HW2.out.size))
 have E0:=zH (QS (m:=m) (x:=x) (b:=b) (st:=st) (pc:=(pc:Int)) (op:=op) (a:=a) (by rw[en];simpa using hov) (fun q=>n6 q.1));rw[show qO m x op a b st=zE m x op a b by unfold qO;rw[if_neg (fun q=>n6 q.1)],show ju m x op a b st=zB m x op a b by unfold ju;rw[if_neg (fun q=>n6 q.1)],en]at E0;obtain⟨nl,hnl⟩:∃nl,[a]=nl:=⟨_,rfl⟩
 have hnll:nl.length=1:=by rw[←hnl];rfl
 have HNL:=zH hnll;go_region_held3 (fun w'=>w'.cell? ⟨w.heap.size,3,none⟩=some (.slice (some ad) m.methods.length h.c3)∧w'.cell? ⟨(ad.add (f*8)).block,(ad.add (f*8)).off+4,none⟩=some (.slice (some ac) x.code.length hx'.k4)∧w'.cell? ⟨w2b.heap.size,0,none⟩=some (.int .i64 (a))) (first|exact⟨q3,c4,n0⟩) (first|fail)
 rename_i hHeld;clear hHeld;have HY:=zH HY.out.drew;have HNX:Hid (zd zo 1 w3.drew w3.drew.heap.size (some ⟨w2b.heap.size,0,none⟩) 1 nl):=zH (hnl ▸ HNX.out.keep' zo.keeps (zn _) (fun _ _=>rfl));rw[hnl]at E0;clear hnl;generalize w3.drew=w4 at*
 clear q0 q1 q2 q3 q4 q5 q6 c4 j0 j1 j2 n0 HN3 HZ3;obtain⟨TK,hTK⟩:∃TK,zE m x op a b=TK:=⟨_,rfl⟩
 obtain⟨GV,hGV⟩:∃GV,zB m x op a b=GV:=⟨_,rfl⟩
 have HGL:Hid (GV.length≤2):=zH (by rw[←hGV];exact VZ m x op a b);rw[hTK,hGV]at HRU E0;clear hTK hGV;obtain⟨q0,q1,q2,q3,q4,q5,q6⟩:=HBX2.out.keep HY.out HZB.out;obtain⟨j0,j1,j2⟩:=zJ (HINS.out.keep HY.out HLT.out);go_upto_region 14 with(first|(go_at_call 32;go_loud ((with_reducible refine(HRU.out _ (HIM2.out.now HY.out)).mono ?_);rintro e w5 ⟨At,ct,Ag,cg,rfl,hT,hG,hb⟩;have HT:=zH hT;have HG:=zH hG;have HNX:=zH (HNX.out.keep' zo.keeps hb.size (fun _ hq=>hb.cell hq));have HY:=zj HY hb;clear hT hG hb;obtain⟨q0,q1,q2,q3,q4,q5,q6⟩:=HBX2.out.keep HY.out HZB.out;obtain⟨j0,j1,j2⟩:=zJ (HINS.out.keep HY.out HLT.out))))
 have htl:=HT.out.le;have htc:=HT.out.cap;have hgl:=HGL.out;by_cases hs1:st.length<TK.length
 ·exact VK
 have hw2:IntKind.i64.wrap ((st.length:Int) - (TK.length:Int))=((st.length - TK.length:Nat):Int):=by rw[IntWalk.i64_in _ (by omega)];omega
 obtain⟨d,hd⟩:∃d,st.length - TK.length=d:=⟨_,rfl⟩
 rw[hd]at hw2;have hw3:IntKind.i64.wrap ((d:Int)+(GV.length:Int))=(d:Int)+(GV.length:Int):=IntWalk.i64_in _ (by omega);by_cases hs2:8<d+GV.length
 ·exact VL
 have E1:=zH (E0.out.trans (q0d hd hs1 hs2));obtain⟨Z,hZ⟩:∃Z,(st.drop d).zip TK=Z:=⟨_,rfl⟩
 have hZl:Z.length=TK.length:=by rw[←hZ,List.length_zip,List.length_drop];omega
 have HZK:Hid (∀k (h1:d+k<st.length) (h2:k<TK.length) (h3:k<Z.length),Z[k]=(st[d+k],TK[k])):=zH (by subst hZ;intro k h1 h2 h3;simp);rw[hZ]at E1;have HZl:=zH hZl;clear E0 hZ hZl;have hdl:d+TK.length=st.length:=by omega
 have hs8:d≤8:=by omega
 go_wp2_with fail
 go_loopw [17] (fun i wr=>∃k:Nat,k≤TK.length∧i= .int .i64 k∧Hid (∀p ∈Z.take k,qk (zw m.classes) op p.1 p.2=true)∧Hid (Below w5.heap.size w5 wr)) (fun i _=>TK.length - (intOf i).toNat)
 case atStart=>exact⟨0,by omega,rfl,zH (by simp),zH (zb _ _)⟩
 case round=>
  clear q0 q1 q2 q3 q4 q5 q6 j0 j1 j2;obtain⟨k,hk,rfl,HN,HX⟩:=hrel;by_cases hlt:k<TK.length
  ·have hkZ:k<Z.length:=by rw[HZl.out];exact hlt
   obtain⟨j,hj⟩:∃j,d+k=j:=⟨_,rfl⟩
   have hdk:j<st.length:=by omega
   have hZk:=HZK.out k (by omega) hlt hkZ;simp only[hj]at hZk;obtain⟨ad1,rfl,hb1,s0,s1⟩:=HST2.out.row.at_ hdk;obtain⟨ad2,rfl,hb2,v0,v1⟩:=HT.out.row.at_ hlt;have HXT:=zH (HY.out.trans (HX.out.mono HY.out.size));have p0:=(HXT.out.cell (p:=ad1.add (j*2)) (by rw[zt];exact hb1)).trans s0;have p1:=(HXT.out.cell (p:=zc (ad1.add (j*2)) 1) (by show(ad1.add (j*2)).block<_;rw[zt];exact hb1)).trans s1;have r0:=(HX.out.cell (p:=ad2.add (k*2)) (by rw[zt];exact hb2)).trans v0;have r1:=(HX.out.cell (p:=zc (ad2.add (k*2)) 1) (by show(ad2.add (k*2)).block<_;rw[zt];exact hb2)).trans v1;have HNO:=zH (fun g:(fun p:(Int×Int)×(Int×Int)=>qk (zw m.classes) op p.1 p.2) Z[k]=false=>Zx (f:=(fun p:(Int×Int)×(Int×Int)=>qk (zw m.classes) op p.1 p.2)) hkZ g);have HYE:=zH (fun g:(fun p:(Int×Int)×(Int×Int)=>qk (zw m.classes) op p.1 p.2) Z[k]=true=>Zc (f:=(fun p:(Int×Int)×(Int×Int)=>qk (zw m.classes) op p.1 p.2)) hkZ HN.out g);rw[hZk]at HNO HYE;clear hZk;generalize st[j]=t at*
   generalize TK[k]=u at*
   obtain⟨t0,t1⟩:=t;obtain⟨u0,u1⟩:=u;dsimp only at p0 p1 r0 r1;have hw4:IntKind.i64.wrap ((d:Int)+(k:Int))=(j:Int):=by rw[IntWalk.i64_in _ (by omega)];omega
   clear s0 s1 v0 v1 hb1 hb2;go_upto_region 23 with fail
   go_cut [18,19] (fun s18 s19 wx=>∃g g':Nat,s18= .pointer (some ⟨g,0,none⟩)∧s19= .pointer (some ⟨g',0,none⟩)∧Hid (zT wx g [.int .i64 t0,.int .i64 t1])∧Hid (zT wx g' [.int .i64 u0,.int .i64 u1])∧Hid (Below wr.heap.size wr wx)∧Hid (g<wx.heap.size)∧Hid (g'<wx.heap.size))
   case first=>
    exact VO
   case rest=>
    obtain⟨g,g',rfl,rfl,HCg,HCh,HXk,HGg,HGh⟩:=hcut;have HX:=zH (HX.out.trans (HXk.out.mono HX.out.size));have HXT:=zH (HXT.out.trans (HXk.out.mono HXT.out.size));have HXc:=zH (zb wc.heap.size wc);clear HXk p0 p1 r0 r1;have ku0:=HCg.out 0 _ rfl;have ku1:=HCg.out 1 _ rfl;have kv0:=HCh.out 0 _ rfl;have kv1:=HCh.out 1 _ rfl;obtain⟨q0,q1,q2,q3,q4,q5,q6⟩:=HBX2.out.keep HXT.out HZB.out;have j0:=(HINS.out.keep HXT.out HLT.out) 0 _ rfl;by_cases hu0:u0=0
    ·subst hu0;exact VM
    have bu0:(u0==0)=false:=beq_eq_false_iff_ne.mpr hu0;obtain⟨r,hr⟩:∃r,qk (zw m.classes) op (t0,t1) (u0,u1)=r:=⟨_,rfl⟩
    by_cases hu4:u0=4
    ·subst hu4;have HD:=zH (jQ.symm.trans hr);obtain⟨z,hz⟩:∃z,jO t0=z:=⟨_,rfl⟩
     have HZR:=zH hz;cases z
     ·have E2:=zH (E1.out.trans (if_neg (by rw[HNO.out (jQ.trans (by rw[hz];rfl))];decide)));clear hz hr HD;exact q7c
     ·by_cases h34:op=34
      ·by_cases ht2:t0=2
       ·have E2:=zH (E1.out.trans (if_neg (by rw[HNO.out (jQ.trans (by rw[h34,ht2];rfl))];decide)));clear hz hr HD;have b34:(op==34)=true:=beq_iff_eq.mpr h34;have bt2:(t0==2)=true:=beq_iff_eq.mpr ht2;clear h34 ht2;exact q7c
       ·have HR2:=zH (HYE.out (jQ.trans (by rw[hz,decide_eq_false ht2,Bool.and_false];rfl)));clear hz hr HD;have b34:(op==34)=true:=beq_iff_eq.mpr h34;have bt2:(t0==2)=false:=beq_eq_false_iff_ne.mpr ht2;clear h34;exact q7b
      ·have HR2:=zH (HYE.out (jQ.trans (by rw[hz,decide_eq_false h34,Bool.false_and];rfl)));clear hz hr HD;have b34:(op==34)=false:=beq_eq_false_iff_ne.mpr h34;exact q7b
    ·exact VN
  ·obtain rfl:k=TK.length:=by omega
   obtain⟨q0,q1,q2,q3,q4,q5,q6⟩:=HBX2.out.keep (HY.out.trans (HX.out.mono HY.out.size)) HZB.out;have E2:=zH (E1.out.trans (if_pos (ZO HN.out (by rw[HZl.out];exact zn _))));obtain⟨i0,hi,hz0,hz1,hz2⟩:=jg kK;have HXT:=zH (HY.out.trans (HX.out.mono HY.out.size));have HB0:=zH ((zb wr.heap.size wr).alloc (zn _) (.cells #[] 39));have HO0:=zH (ka wr 39 2);have HA:=zH (((vl (HST2.out.row.take_ d)).below_to (HXT.out.trans (HB0.out.mono HXT.out.size)) (zn _)):zz (wr.alloc (.cells #[] 39)) w2.heap.size A (zD (st.take d)));have htd:(st.take d).length=d:=by rw[List.length_take];omega
   have hdc:d≤cap:=by omega
   have HE:=zH E2.out;rcases A with _|ad0
   ·have hst0:st.length=0:=Nat.eq_zero_of_not_pos fun q=>by obtain⟨_,e,_⟩:=HST2.out.row.at_ q;exact absurd e (by simp)
    obtain rfl:st=[]:=List.eq_nil_of_length_eq_zero hst0;obtain rfl:d=0:=by omega
    go_wp2_with(first
     |(at_builtin;refine ja rfl _ _ 23 rfl wr.heap.size 39 i0 (.agg #[.int .i64 0,.int .i64 0]) 2 16 Tryz.underlying23 hi hz0 hz1 hz2 rfl (by decide) _ 0 [] rfl HO0.out none 0 _ _ (zD (([]:List (Int×Int)).take 0)) rfl rfl HA.out (jt _) (by unfold maxLen;omega) (by omega) HB0.out.size ?_;intro v6 w6 hO6 hG6;have HB6:=zH (qA HB0.out HO0.out HB0.out.size hG6);have HO6:=zH hO6;have HG6:=zH (((vl HG.out.row).below_to (HX.out.trans (HB6.out.mono HX.out.size)) (zn _)):zz w6 w5.heap.size Ag (zD GV));clear hO6 hG6)
     |(at_builtin;refine ja rfl _ _ 23 rfl wr.heap.size 39 i0 (.agg #[.int .i64 0,.int .i64 0]) 2 16 Tryz.underlying23 hi hz0 hz1 hz2 rfl (by decide) _ (0+0) ([]++zD (([]:List (Int×Int)).take 0)) rfl HO6.out Ag GV.length cg _ (zD GV) (vz _) rfl HG6.out (jt _) (by unfold maxLen;omega) (by omega) HB6.out.size ?_;intro v7 w7 hO7 hG7;have HB7:=zH (qA HB6.out HO6.out HB6.out.size hG7);have HO7:=zH hO7;clear hO7 hG7))
    have hO:w7.ownsRow wr.heap.size 39 2 v7 (([]:List (Int×Int)).take 0++GV).length (zD (([]:List (Int×Int)).take 0++GV)):=by
     have:=HO7.out;rw[List.length_append];unfold zD at this⊢
     rw[List.flatMap_append];simpa using this
    obtain⟨A7,c7,rfl,hS,_⟩:=vy hO;go_ret3
    rw[HE.out];have hB:=HY.out.trans ((HX.out.trans (HB7.out.mono HX.out.size)).mono HY.out.size);refine⟨A7,c7,some ⟨w2b.heap.size,0,none⟩,1,?_,hS,HNX.out.keep' zo.keeps (Nat.le_trans HX.out.size HB7.out.size) (fun q hq=>((HX.out.trans (HB7.out.mono HX.out.size)).cell hq)),HW2.out.trans (hB.mono HW2.out.size),JM (Nat.le_trans HW2.out.size HZ2B.out)⟩;show _=Ending.returned (.tuple #[.slice A7 (([]:List (Int×Int)).take 0++GV).length c7,.slice (some ⟨w2b.heap.size,0,none⟩) nl.length 1,.int .i64 0]);rw[HNL.out];rfl
   ·go_wp2_with(first
     |(at_builtin;refine ja rfl _ _ 23 rfl wr.heap.size 39 i0 (.agg #[.int .i64 0,.int .i64 0]) 2 16 Tryz.underlying23 hi hz0 hz1 hz2 rfl (by decide) _ 0 [] rfl HO0.out (some ad0) d cap _ (zD (st.take d)) (by rw[vz,htd]) rfl HA.out (jt _) (by unfold maxLen;omega) (by omega) HB0.out.size ?_;intro v6 w6 hO6 hG6;have HB6:=zH (qA HB0.out HO0.out HB0.out.size hG6);have HO6:=zH hO6;have HG6:=zH (((vl HG.out.row).below_to (HX.out.trans (HB6.out.mono HX.out.size)) (zn _)):zz w6 w5.heap.size Ag (zD GV));clear hO6 hG6)
     |(at_builtin;refine ja rfl _ _ 23 rfl wr.heap.size 39 i0 (.agg #[.int .i64 0,.int .i64 0]) 2 16 Tryz.underlying23 hi hz0 hz1 hz2 rfl (by decide) _ (0+d) ([]++zD (st.take d)) rfl HO6.out Ag GV.length cg _ (zD GV) (vz _) rfl HG6.out (jt _) (by unfold maxLen;omega) (by omega) HB6.out.size ?_;intro v7 w7 hO7 hG7;have HB7:=zH (qA HB6.out HO6.out HB6.out.size hG7);have HO7:=zH hO7;clear hO7 hG7))
    have hO:w7.ownsRow wr.heap.size 39 2 v7 (st.take d++GV).length (zD (st.take d++GV)):=by
     have:=HO7.out;rw[List.length_append,htd];unfold zD at this⊢
     rw[List.flatMap_append];simpa using this
    obtain⟨A7,c7,rfl,hS,_⟩:=vy hO;go_ret3
    rw[HE.out];have hB:=HY.out.trans ((HX.out.trans (HB7.out.mono HX.out.size)).mono HY.out.size);refine⟨A7,c7,some ⟨w2b.heap.size,0,none⟩,1,?_,hS,HNX.out.keep' zo.keeps (Nat.le_trans HX.out.size HB7.out.size) (fun q hq=>((HX.out.trans (HB7.out.mono HX.out.size)).cell hq)),HW2.out.trans (hB.mono HW2.out.size),JM (Nat.le_trans HW2.out.size HZ2B.out)⟩;show _=Ending.returned (.tuple #[.slice A7 (st.take d++GV).length c7,.slice (some ⟨w2b.heap.size,0,none⟩) nl.length 1,.int .i64 0]);rw[HNL.out];rfl
def q33(gc:Nat):zS:=⟨none,none,some ⟨gc,0,none⟩,none,0,0,1,0⟩
def q32(gc:Nat):List Value:=[.slice none 0 0,.slice none 0 0,.int .i64 0,.int .i64 0,.slice (some ⟨gc,0,none⟩) 1 1,.int .i64 0,.int .i64 0,.slice none 0 0]
theorem qnp(op a b:Int)(gc:Nat):jz (JQ op a b,q33 gc)=q32 gc:=rfl
structure q0l(w1 wx:World)(N g c gc:Nat)(h:zl)(m:za)(n:Nat)(op a b:Int)(zs:List (ze×zS)):Prop where
 box:zf wx N [.slice h.A0 m.classes.length h.c0,.slice h.A1 m.statics.length h.c1,.slice h.A2 m.ints.length h.c2,.slice (some ⟨g,0,none⟩) (n+1) c,.slice h.A4 m.entries.length h.c4,.int .i64 m.stack,.int .i64 m.heap] 28
 row:wx.ownsRow w1.heap.size 42 8 (.slice (some ⟨g,0,none⟩) (n+1) c) (n+1) (qU (zs++[(JQ op a b,q33 gc)]))
 code:zf wx gc [.int .i64 op,.int .i64 a,.int .i64 b] 45
 low:Below N w1 wx
theorem qpe{w:World}{g:Nat}{op a b:Int}(h:zf w g [.int .i64 op,.int .i64 a,.int .i64 b] 45):zd qw 3 w w.heap.size (some ⟨g,0,none⟩) 1 [(op,a,b)]:=
 ⟨zn _,by omega,qcr (k:=3) ⟨h.cells 0 _ rfl,h.cells 1 _ rfl,h.cells 2 _ rfl⟩ (zf.lt h)⟩
theorem q0l.image{w w1 wx:World}{N g c gc n:Nat}{h:zl}{m:za}{op a b:Int}{zs:List (ze×zS)}(H:q0l w1 wx N g c gc h m n op a b zs)(hn:m.methods.length=n)(hI:zp w w.heap.size h m)(hz:zs.map (·.1)=m.methods∧∀z ∈zs,qy w w.heap.size z.2 z.1)(hb:Below w.heap.size w wx):
  zp wx wx.heap.size ⟨h.A0,h.A1,h.A2,some ⟨g,0,none⟩,h.A4,h.c0,h.c1,h.c2,c,h.c4⟩ (jp m op a b):=by
 have hI:=hI.now hb;have hzn:zs.length=n:=by rw[←hn,←hz.1,List.length_map]
 refine⟨hI.classes,hI.statics,hI.ints,?_,hI.entries⟩;have hs:=q2e H.row (by simp[hzn]) (fun z hm=>by
  rcases List.mem_append.mp hm with q|q
  ·exact(hz.2 z q).now hb
  ·rw[List.mem_singleton.mp q];exact⟨⟨zn _,Nat.zero_le _,qt.nil⟩,⟨zn _,Nat.zero_le _,qt.nil⟩,qpe H.code,⟨zn _,Nat.zero_le _,qt.nil⟩⟩)
 rw[List.map_append,hz.1]at hs;exact hs
theorem q0l.pot{w1 wx:World}{N g c gc n:Nat}{h:zl}{m:za}{op a b:Int}{zs:List (ze×zS)}(H:q0l w1 wx N g c gc h m n op a b zs)(hn:m.methods.length=n)(hz:zs.map (·.1)=m.methods){t:Nat}(ht:t<n):wx.cell? ⟨g,t*8+6,none⟩=some (.int .i64 (zm (jp m op a b) (t:Int)).pot):=by
 have hzn:zs.length=n:=by rw[←hn,←hz,List.length_map]
 obtain⟨_,hc⟩:=kb H.row;have hzt:(zs++[(JQ op a b,q33 gc)])[t]? =some zs[t]:=by rw[List.getElem?_append_left (by omega),List.getElem?_eq_getElem (by omega)]
 have e:(zm (jp m op a b) (t:Int))=zs[t].1:=by
  rw[qcp (by omega)];unfold zm;rw[Int.toNat_natCast,←hz,List.getElem?_map,List.getElem?_eq_getElem (by omega)];rfl
 rw[e];exact(hc (t*8+6) _ (by rw[JE hzt (by decide)];rfl)).1
theorem qpd{m:za}{n:Nat}{op a b:Int}{h:zl}{g c:Nat}{L:List Int}{w:World}(hn:Hid (m.methods.length=n))(HI:Hid (zp w w.heap.size ⟨h.A0,h.A1,h.A2,some ⟨g,0,none⟩,h.A4,h.c0,h.c1,h.c2,c,h.c4⟩ (jp m op a b)))(HC:Hid ((jp m op a b).classes.length≤1000∧(jp m op a b).methods.length≤1048576∧∀x ∈(jp m op a b).methods,x.code.length≤1048576))(HR:Hid (vh (jp m op a b) (m.methods.length:Int)=L)):
  Calls Tryz.prog 53 #[.agg #[.slice h.A0 m.classes.length h.c0,.slice h.A1 m.statics.length h.c1,.slice h.A2 m.ints.length h.c2,.slice (some ⟨g,0,none⟩) (n+1) c,.slice h.A4 m.entries.length h.c4,.int .i64 m.stack,.int .i64 m.heap],.int .i64 n] w fun e w'=>∃A c,e= .returned (.slice A L.length c)∧zd zo 1 w' w'.heap.size A c L∧(∀ad,A=some ad→w.heap.size≤ad.block)∧Below w.heap.size w w':=by
 have H:=qd3 (w0:=w) (f:=(m.methods.length:Int)) HI (zH (zb _ _)) HC HR;have e:zr ⟨h.A0,h.A1,h.A2,some ⟨g,0,none⟩,h.A4,h.c0,h.c1,h.c2,c,h.c4⟩ (jp m op a b)= .agg #[.slice h.A0 m.classes.length h.c0,.slice h.A1 m.statics.length h.c1,.slice h.A2 m.ints.length h.c2,.slice (some ⟨g,0,none⟩) (n+1) c,.slice h.A4 m.entries.length h.c4,.int .i64 m.stack,.int .i64 m.heap]:=by
  show Value.agg #[.slice h.A0 m.classes.length h.c0,.slice h.A1 m.statics.length h.c1,.slice h.A2 m.ints.length h.c2,.slice (some ⟨g,0,none⟩) (jp m op a b).methods.length c,.slice h.A4 m.entries.length h.c4,.int .i64 m.stack,.int .i64 m.heap]=_;rw[q07,hn.out]
 rw[e,hn.out]at H;exact H
theorem VG{w:World}{base e k n:Nat}{v:Value}{xs:List Value}(h:w.ownsRow base e k v n xs):∀g,v.ownBlock=some g→g<w.heap.size:=fun g hg=>(h.lt g hg).2
theorem qhu{w:World}{g:Nat}{vs:List Value}{T:TypeId}(h:zf w g vs T):zz w w.heap.size (some ⟨g,0,none⟩) vs:=fun j u hj=>⟨_,rfl,zf.lt h,by rw[show Addr.add ⟨g,0,none⟩ j=⟨g,j,none⟩by unfold Addr.add;split<;>simp_all];exact h.cells j u hj⟩
theorem qkc(gc:Nat):∀u ∈q32 gc,u.oneCell'=true:=fun u hu=>by
 unfold q32 at hu;simp at hu;rcases hu with rfl|rfl|rfl|rfl|rfl|rfl|rfl|rfl<;>rfl
theorem qdv{W:World}{base:Nat}{e:TypeId}{size:Nat}{v:Value}{k:Nat}{xs:List Value}(h:W.ownsRow base e size v (k+1) xs):∃g cap,v= .slice (some ⟨g,0,none⟩) (k+1) cap:=by
 rcases jA h with⟨_,h0⟩|⟨g,cap,rfl,_⟩
 ·omega
 ·exact⟨g,cap,rfl⟩
theorem qde{w:World}{base e k n g:Nat}{v:Value}{xs vs:List Value}{T:TypeId}(h:w.ownsRow base e k v n xs)(hw:zf w g vs T)(hT:e≠T):v.ownBlock≠some g:=fun hv=>by
 rcases h.2 with⟨rfl,_⟩|⟨g',cap,cur,rfl,_,hh,_⟩
 ·cases hv
 ·have:g'=g:=by simpa[Value.ownBlock]using hv
  subst this;unfold zf at hw;rw[hw]at hh;injection hh with hh;injection hh with _ h2 _;exact hT h2.symm
theorem qnf{w:World}{g g':Nat}{vs vs':List Value}{T T':TypeId}(h:zf w g vs T)(h':zf w g' vs' T')(hT:T≠T'):g≠g':=fun e=>by
 subst e;unfold zf at h h';rw[h]at h';injection h' with h';injection h' with _ h2 _;exact hT h2
theorem qaz{w w':World}{g:Nat}{vs:List Value}{T:TypeId}{row:Option Nat}(h:zf w g vs T)(hg:w.grownBy w' row)(hne:row≠some g):zf w' g vs T:=(hg.block g (zf.lt h) (fun e=>hne e.symm)).trans h
theorem qly(zs:List (ze×zS))(z:ze×zS):qU (zs++[z])=qU zs++jz z:=by unfold qU;simp
theorem qdw{w:World}{base e k n B i:Nat}{v u:Value}{xs:List Value}(h:w.ownsRow B e k v n xs)(hN:base≤B){w1:World}{vs:List Value}{T:TypeId}(hW:zf w1 base vs T)(hB:B=w1.heap.size:=by rfl):(w.setCell ⟨base,i,none⟩ u).ownsRow B e k v n xs:=by
 refine⟨h.1,?_⟩;have:=zf.lt hW;rcases h.2 with h0|⟨g,cap,cur,hv,hb,hh,rest⟩
 ·exact .inl h0
 ·exact .inr ⟨g,cap,cur,hv,hb,by rw[Below.heap_setCell _ _ _ _ (by show g≠base;omega)];exact hh,rest⟩
theorem YQ{P:Prop}(h:P:=by
 refine hK.out _ _ (HKS.out _ HX.out) (fun hHeld=> ?_);clear hK K;try simp only[sA,sB,sC,Act.put,sD,sE,sF]
 refine wpAnyH_ready (rs:=[7]) (by kernel_rfl) (by simp) ?_;refine AllReadyH.cons (o:=_) rfl (fun K hK=> ?_) AllReadyH.nil;refine Qy rfl _ _ 25 rfl w1.heap.size 42 ti z0 8 128 Tryz.underlying25 hti ht0 ht2 ht3 ht1 (by decide) _ n (qU zs) rfl HO.out (some ⟨gt,0,none⟩) 1 1 _ (q32 gc) rfl rfl (qhu HT.out) (qkc gc) (by unfold maxLen;omega) (by omega) HX.out.size ?_;intro v9 w9 hown hgrow;have hX9:=qA HX.out HO.out HX.out.size hgrow;have hbx9:=HW1.out.keep hX9 (zf.lt HW1.out);obtain⟨g9,c9,rfl⟩:=qdv hown;have hC9:=qaz HC.out hgrow (qde HO.out HC.out (by decide));have hO9:Hid (w9.ownsRow w1.heap.size 42 8 (.slice (some ⟨g9,0,none⟩) (n+1) c9) (n+1) (qU (zs++[(JQ op a b,q33 gc)]))):=zH (by rw[qly,qnp];exact hown);refine hK.out _ _ (HKS.out _ hX9) (fun hHeld=> ?_);clear hK K;try simp only[sA,sB,sC,Act.put,sD,sE,sF]
 refine mT 8 (h:= ?_);refine wpAnyH_ready (rs:=[9]) (by kernel_rfl) (by simp) ?_;refine AllReadyH.cons (o:=_) rfl (fun K hK=> ?_) AllReadyH.nil;have q3:=hbx9.cells 3 _ rfl;have f3:=hbx9.free 3;go_simp;refine hK.out _ _ (HKT.out _ _ hX9) (fun hHeld=> ?_);clear hK K;try simp only[sA,sB,sC,Act.put,sD,sE,sF]
 refine wpAnyH_done (by kernel_rfl) ?_ _;refine NoPanic.normal ?_;go_wp2_with fail
 go_meet
 exact⟨g9,c9,gc,zH ⟨hbx9.set 3 _,qdw hO9.out HSZ1.out HW1.out,(Below.heap_setCell _ _ _ gc (by show gc≠w.heap.size;exact qnf hC9 hbx9 (by decide))).trans hC9,(hX9.mono HSZ1.out).setCell (p:=⟨w.heap.size,3,none⟩) (zn _) _⟩⟩):P:=h
set_option maxHeartbeats 12800000 in
theorem qla(m:za)(n:Nat)(op a b:Int)(h:zl)(w:World)(H:zp w w.heap.size h m)(hn:m.methods.length=n)(hcl:m.classes.length≤1000)(hml:n≤1000)(h0:0<n)(hc:∀x ∈m.methods,x.code.length≤1048576)(ht:∀t ∈qj m op a b,0≤t∧t<m.methods.length):
  Calls Tryz.prog 27 #[zr h m,zF op a b] w fun e w'=>e= .returned (.int .i64 (jq m (qj m op a b)))∧Below w.heap.size w w':=by
 obtain⟨zs,hz,hzl,hzi⟩:=q63 H.methods.row;have hzn:zs.length=n:=by rw[←hn,←hz,List.length_map]
 have HMOST:=zH (qka ht);have HCO:Hid ((jp m op a b).classes.length≤1000∧(jp m op a b).methods.length≤1048576∧∀x ∈(jp m op a b).methods,x.code.length≤1048576):=zH ⟨hcl,by rw[q07];omega,fun x hx=>by
  rcases List.mem_append.mp hx with q|q
  ·exact hc x q
  ·rw[List.mem_singleton.mp q];exact(show 1≤1048576 by omega)⟩
 have HCR:Hid (∀t ∈vh (jp m op a b) (m.methods.length:Int),0≤t∧t<m.methods.length):=zH (fun t hm=>ht t ((q1b ht t).mp hm));have HCL:Hid ((vh (jp m op a b) (m.methods.length:Int)).length≤1001):=zH (by have:=qb3 (jp m op a b) (m.methods.length:Int);rw[q07]at this;omega);have HI:=zH H;have HZS:Hid (zs.map (·.1)=m.methods∧∀z ∈zs,qy w w.heap.size z.2 z.1):=zH ⟨hz,hzi⟩;have HZN:=zH hzn;have HNN:=zH hn;have hcap:=H.methods.cap;have hle:=H.methods.le;rw[hn]at hle;obtain⟨adM,hA3⟩:∃ad,h.A3=some ad:=by
  obtain⟨ad,_,e,_⟩:=jB H (show 0<m.methods.length by omega);exact⟨ad,e⟩
 rw[hA3]at hzl;have HLZ:=zH hzl;obtain⟨A0,A1,A2,A3,A4,k0,k1,k2,k3,k4⟩:=h;dsimp only at hA3 hcap hle;subst hA3;obtain⟨V,hV⟩:∃V,jq m (qj m op a b)=V:=⟨_,rfl⟩
 rw[hV]at HMOST⊢
 clear H hz hzi hzl hzn hc ht hV hn;obtain⟨ti,z0,hti,ht0,ht1,ht2,ht3⟩:=q9c qas;go_enter Tryz.func27,Tryz.ntmps27;go_upto_region 1 with fail
 have hW1:zf ((w.alloc (zq ⟨A0,A1,A2,some adM,A4,k0,k1,k2,k3,k4⟩ m)).alloc (.cells #[.int .i64 op,.int .i64 a,.int .i64 b] 45)) w.heap.size [.slice A0 m.classes.length k0,.slice A1 m.statics.length k1,.slice A2 m.ints.length k2,.slice (some adM) m.methods.length k3,.slice A4 m.entries.length k4,.int .i64 m.stack,.int .i64 m.heap] 28:=zf.keep (zf.new w [.slice A0 m.classes.length k0,.slice A1 m.statics.length k1,.slice A2 m.ints.length k2,.slice (some adM) m.methods.length k3,.slice A4 m.entries.length k4,.int .i64 m.stack,.int .i64 m.heap] 28) ((zb _ _).alloc (zn _) _) (by simp);have hW2:zf ((w.alloc (zq ⟨A0,A1,A2,some adM,A4,k0,k1,k2,k3,k4⟩ m)).alloc (.cells #[.int .i64 op,.int .i64 a,.int .i64 b] 45)) (w.heap.size+1) [.int .i64 op,.int .i64 a,.int .i64 b] 45:=zf.at_ (by simp) _ _;have hB1:Below w.heap.size w ((w.alloc (zq ⟨A0,A1,A2,some adM,A4,k0,k1,k2,k3,k4⟩ m)).alloc (.cells #[.int .i64 op,.int .i64 a,.int .i64 b] 45)):=((zb w.heap.size w).alloc (zn _) _).alloc (by simp) _;generalize(w.alloc (zq ⟨A0,A1,A2,some adM,A4,k0,k1,k2,k3,k4⟩ m)).alloc (.cells #[.int .i64 op,.int .i64 a,.int .i64 b] 45)=w1 at*
 rw[HNN.out]at hW1;have HB1:=zH hB1;have HW1:=zH hW1;have HW2:=zH hW2;clear hW1 hW2 hB1;have q3:=HW1.out.cells 3 _ rfl;go_upto_region 2 with fail
 clear q3;have HLZ1:Hid (zz w1 w.heap.size (some adM) (qU zs)):=zH (HLZ.out.below_to HB1.out (zn _));have HSZ1:Hid (w.heap.size≤w1.heap.size):=zH HB1.out.size;go_cut [] (fun wx=>∃g c gc,Hid (q0l w1 wx w.heap.size g c gc ⟨A0,A1,A2,some adM,A4,k0,k1,k2,k3,k4⟩ m n op a b zs))
 case first=>
  have HX:Hid (Below w1.heap.size w1 w1.drew):=zH (zb _ _).drew;have HBX:Hid (zf w1.drew w.heap.size [.slice A0 m.classes.length k0,.slice A1 m.statics.length k1,.slice A2 m.ints.length k2,.slice (some adM) n k3,.slice A4 m.entries.length k4,.int .i64 m.stack,.int .i64 m.heap] 28):=HW1;have HKS:Hid (∀W,Below w1.heap.size w1 W→(fun w'=>w'.cell? ⟨w.heap.size+1,0,none⟩=some (.int .i64 op)∧w'.cell? ⟨w.heap.size+1,1,none⟩=some (.int .i64 a)∧w'.cell? ⟨w.heap.size+1,2,none⟩=some (.int .i64 b)) W):=zH (fun W hW=>by
   have:=HW2.out.keep hW (zf.lt HW2.out);exact⟨this.cells 0 _ rfl,this.cells 1 _ rfl,this.cells 2 _ rfl⟩)
  have HKT:Hid (∀W v,Below w1.heap.size w1 W→(fun w'=>w'.cell? ⟨w.heap.size+1,0,none⟩=some (.int .i64 op)∧w'.cell? ⟨w.heap.size+1,1,none⟩=some (.int .i64 a)∧w'.cell? ⟨w.heap.size+1,2,none⟩=some (.int .i64 b)) (W.setCell ⟨w.heap.size,3,none⟩ v)):=zH (fun W v hW=>by
   obtain⟨s0,s1,s2⟩:=HKS.out W hW;have hne:w.heap.size≠w.heap.size+1:=by omega
   exact⟨(World.cell?_setCell_far _ _ _ _ hne).trans s0,(World.cell?_setCell_far _ _ _ _ hne).trans s1,(World.cell?_setCell_far _ _ _ _ hne).trans s2⟩)
  refine wp_region_noPanic ?_;refine wp_region_held_drew (S:=fun w'=>w'.cell? ⟨w.heap.size+1,0,none⟩=some (.int .i64 op)∧w'.cell? ⟨w.heap.size+1,1,none⟩=some (.int .i64 a)∧w'.cell? ⟨w.heap.size+1,2,none⟩=some (.int .i64 b)) (by kernel_rfl) (HKS.out _ HX.out) (fun hHeld=> ?_);generalize w1.drew=w2 at HX HBX hHeld⊢
  refine mT 0 (h:=mT 3 (h:= ?_));refine wpAnyH_ready (rs:=[1,4]) (by kernel_rfl) (by simp) ?_;refine(AllReadyH.cons (o:=_) rfl (fun K hK=> ?_) (AllReadyH.cons (o:=_) rfl (fun K hK=> ?_) AllReadyH.nil))
  ·have q3:=HBX.out.cells 3 _ rfl;go_simp;clear q3;refine hK.out _ _ (HKS.out _ HX.out) (fun hHeld=> ?_);clear hK K;try simp only[sA,sB,sC,Act.put,sD,sE,sF]
   refine wpAnyH_ready (rs:=[2,4]) (by kernel_rfl) (by simp) ?_;refine(AllReadyH.cons (o:=_) rfl (fun K hK=> ?_) (AllReadyH.cons (o:=_) rfl (fun K hK=> ?_) AllReadyH.nil))
   ·go_simp;(go_at_call 52;(with_reducible refine(Vd HZN HLZ1 HX HSZ1 (zH h0) (zH (by omega))).mono ?_);rintro e w103 ⟨gi,ci,rfl,ho,hA⟩;have HO:=zH (jI ho HX.out.size);replace HX:=zj HX hA;replace HBX:=zH (HBX.out.keep hA (zf.lt HBX.out));clear ho hA)
    refine hK.out _ _ (HKS.out _ HX.out) (fun hHeld=> ?_);clear hK K;try simp only[sA,sB,sC,Act.put,sD,sE,sF]
    refine wpAnyH_ready (rs:=[4]) (by kernel_rfl) (by simp) ?_;refine AllReadyH.cons (o:=_) rfl (fun K hK=> ?_) AllReadyH.nil;go_simp;have hA:Below w103.heap.size w103 (w103.alloc (.cells #[.int .i64 op,.int .i64 a,.int .i64 b] 45)):=(zb _ _).alloc (zn _) _;have HC:Hid (zf (w103.alloc (.cells #[.int .i64 op,.int .i64 a,.int .i64 b] 45)) w103.heap.size [.int .i64 op,.int .i64 a,.int .i64 b] 45):=zH (zf.new w103 [.int .i64 op,.int .i64 a,.int .i64 b] 45);replace HX:=zj HX hA;replace HBX:=zH (HBX.out.keep hA (zf.lt HBX.out));replace HO:=zH (qG HO.out hA (VG HO.out));clear hA;generalize w103.alloc (.cells #[.int .i64 op,.int .i64 a,.int .i64 b] 45)=w104 at HX HBX HC HO⊢;generalize w103.heap.size=gc at HC⊢
    refine hK.out _ _ (HKS.out _ HX.out) (fun hHeld=> ?_);clear hK K;try simp only[sA,sB,sC,Act.put,sD,sE,sF]
    refine mT 5 (h:= ?_);refine wpAnyH_ready (rs:=[6]) (by kernel_rfl) (by simp) ?_;refine AllReadyH.cons (o:=_) rfl (fun K hK=> ?_) AllReadyH.nil;go_simp;have hA:Below w104.heap.size w104 (w104.alloc (.cells #[.slice none 0 0,.slice none 0 0,.int .i64 0,.int .i64 0,.slice (some ⟨gc,0,none⟩) 1 1,.int .i64 0,.int .i64 0,.slice none 0 0] 42)):=(zb _ _).alloc (zn _) _;have HT:Hid (zf (w104.alloc (.cells #[.slice none 0 0,.slice none 0 0,.int .i64 0,.int .i64 0,.slice (some ⟨gc,0,none⟩) 1 1,.int .i64 0,.int .i64 0,.slice none 0 0] 42)) w104.heap.size [.slice none 0 0,.slice none 0 0,.int .i64 0,.int .i64 0,.slice (some ⟨gc,0,none⟩) 1 1,.int .i64 0,.int .i64 0,.slice none 0 0] 42):=zH (zf.new w104 [.slice none 0 0,.slice none 0 0,.int .i64 0,.int .i64 0,.slice (some ⟨gc,0,none⟩) 1 1,.int .i64 0,.int .i64 0,.slice none 0 0] 42);replace HX:=zj HX hA;replace HBX:=zH (HBX.out.keep hA (zf.lt HBX.out));replace HO:=zH (qG HO.out hA (VG HO.out));replace HC:=zH (HC.out.keep hA (zf.lt HC.out));clear hA;generalize w104.alloc (.cells #[.slice none 0 0,.slice none 0 0,.int .i64 0,.int .i64 0,.slice (some ⟨gc,0,none⟩) 1 1,.int .i64 0,.int .i64 0,.slice none 0 0] 42)=w105 at HX HBX HT HO HC⊢;generalize w104.heap.size=gt at HT⊢
    exact YQ
   ·go_simp;have hA:Below w2.heap.size w2 (w2.alloc (.cells #[.int .i64 op,.int .i64 a,.int .i64 b] 45)):=(zb _ _).alloc (zn _) _;have HC:Hid (zf (w2.alloc (.cells #[.int .i64 op,.int .i64 a,.int .i64 b] 45)) w2.heap.size [.int .i64 op,.int .i64 a,.int .i64 b] 45):=zH (zf.new w2 [.int .i64 op,.int .i64 a,.int .i64 b] 45);replace HX:=zj HX hA;replace HBX:=zH (HBX.out.keep hA (zf.lt HBX.out));clear hA;generalize w2.alloc (.cells #[.int .i64 op,.int .i64 a,.int .i64 b] 45)=w107 at HX HBX HC⊢;generalize w2.heap.size=gc at HC⊢
    refine hK.out _ _ (HKS.out _ HX.out) (fun hHeld=> ?_);clear hK K;try simp only[sA,sB,sC,Act.put,sD,sE,sF]
    refine mT 5 (h:= ?_);refine wpAnyH_ready (rs:=[2,6]) (by kernel_rfl) (by simp) ?_;refine(AllReadyH.cons (o:=_) rfl (fun K hK=> ?_) (AllReadyH.cons (o:=_) rfl (fun K hK=> ?_) AllReadyH.nil))
    ·go_simp;(go_at_call 52;(with_reducible refine(Vd HZN HLZ1 HX HSZ1 (zH h0) (zH (by omega))).mono ?_);rintro e w108 ⟨gi,ci,rfl,ho,hA⟩;have HO:=zH (jI ho HX.out.size);replace HX:=zj HX hA;replace HBX:=zH (HBX.out.keep hA (zf.lt HBX.out));replace HC:=zH (HC.out.keep hA (zf.lt HC.out));clear ho hA)
     refine hK.out _ _ (HKS.out _ HX.out) (fun hHeld=> ?_);clear hK K;try simp only[sA,sB,sC,Act.put,sD,sE,sF]
     refine wpAnyH_ready (rs:=[6]) (by kernel_rfl) (by simp) ?_;refine AllReadyH.cons (o:=_) rfl (fun K hK=> ?_) AllReadyH.nil;go_simp;have hA:Below w108.heap.size w108 (w108.alloc (.cells #[.slice none 0 0,.slice none 0 0,.int .i64 0,.int .i64 0,.slice (some ⟨gc,0,none⟩) 1 1,.int .i64 0,.int .i64 0,.slice none 0 0] 42)):=(zb _ _).alloc (zn _) _;have HT:Hid (zf (w108.alloc (.cells #[.slice none 0 0,.slice none 0 0,.int .i64 0,.int .i64 0,.slice (some ⟨gc,0,none⟩) 1 1,.int .i64 0,.int .i64 0,.slice none 0 0] 42)) w108.heap.size [.slice none 0 0,.slice none 0 0,.int .i64 0,.int .i64 0,.slice (some ⟨gc,0,none⟩) 1 1,.int .i64 0,.int .i64 0,.slice none 0 0] 42):=zH (zf.new w108 [.slice none 0 0,.slice none 0 0,.int .i64 0,.int .i64 0,.slice (some ⟨gc,0,none⟩) 1 1,.int .i64 0,.int .i64 0,.slice none 0 0] 42);replace HX:=zj HX hA;replace HBX:=zH (HBX.out.keep hA (zf.lt HBX.out));replace HO:=zH (qG HO.out hA (VG HO.out));replace HC:=zH (HC.out.keep hA (zf.lt HC.out));clear hA;generalize w108.alloc (.cells #[.slice none 0 0,.slice none 0 0,.int .i64 0,.int .i64 0,.slice (some ⟨gc,0,none⟩) 1 1,.int .i64 0,.int .i64 0,.slice none 0 0] 42)=w109 at HX HBX HT HO HC⊢;generalize w108.heap.size=gt at HT⊢
     exact YQ
    ·go_simp;have hA:Below w107.heap.size w107 (w107.alloc (.cells #[.slice none 0 0,.slice none 0 0,.int .i64 0,.int .i64 0,.slice (some ⟨gc,0,none⟩) 1 1,.int .i64 0,.int .i64 0,.slice none 0 0] 42)):=(zb _ _).alloc (zn _) _;have HT:Hid (zf (w107.alloc (.cells #[.slice none 0 0,.slice none 0 0,.int .i64 0,.int .i64 0,.slice (some ⟨gc,0,none⟩) 1 1,.int .i64 0,.int .i64 0,.slice none 0 0] 42)) w107.heap.size [.slice none 0 0,.slice none 0 0,.int .i64 0,.int .i64 0,.slice (some ⟨gc,0,none⟩) 1 1,.int .i64 0,.int .i64 0,.slice none 0 0] 42):=zH (zf.new w107 [.slice none 0 0,.slice none 0 0,.int .i64 0,.int .i64 0,.slice (some ⟨gc,0,none⟩) 1 1,.int .i64 0,.int .i64 0,.slice none 0 0] 42);replace HX:=zj HX hA;replace HBX:=zH (HBX.out.keep hA (zf.lt HBX.out));replace HC:=zH (HC.out.keep hA (zf.lt HC.out));clear hA;generalize w107.alloc (.cells #[.slice none 0 0,.slice none 0 0,.int .i64 0,.int .i64 0,.slice (some ⟨gc,0,none⟩) 1 1,.int .i64 0,.int .i64 0,.slice none 0 0] 42)=w111 at HX HBX HT HC⊢;generalize w107.heap.size=gt at HT⊢
     refine hK.out _ _ (HKS.out _ HX.out) (fun hHeld=> ?_);clear hK K;try simp only[sA,sB,sC,Act.put,sD,sE,sF]
     refine wpAnyH_ready (rs:=[2]) (by kernel_rfl) (by simp) ?_;refine AllReadyH.cons (o:=_) rfl (fun K hK=> ?_) AllReadyH.nil;go_simp;(go_at_call 52;(with_reducible refine(Vd HZN HLZ1 HX HSZ1 (zH h0) (zH (by omega))).mono ?_);rintro e w112 ⟨gi,ci,rfl,ho,hA⟩;have HO:=zH (jI ho HX.out.size);replace HX:=zj HX hA;replace HBX:=zH (HBX.out.keep hA (zf.lt HBX.out));replace HC:=zH (HC.out.keep hA (zf.lt HC.out));replace HT:=zH (HT.out.keep hA (zf.lt HT.out));clear ho hA)
     exact YQ
  ·go_simp;have hA:Below w2.heap.size w2 (w2.alloc (.cells #[.int .i64 op,.int .i64 a,.int .i64 b] 45)):=(zb _ _).alloc (zn _) _;have HC:Hid (zf (w2.alloc (.cells #[.int .i64 op,.int .i64 a,.int .i64 b] 45)) w2.heap.size [.int .i64 op,.int .i64 a,.int .i64 b] 45):=zH (zf.new w2 [.int .i64 op,.int .i64 a,.int .i64 b] 45);replace HX:=zj HX hA;replace HBX:=zH (HBX.out.keep hA (zf.lt HBX.out));clear hA;generalize w2.alloc (.cells #[.int .i64 op,.int .i64 a,.int .i64 b] 45)=w114 at HX HBX HC⊢;generalize w2.heap.size=gc at HC⊢
   refine hK.out _ _ (HKS.out _ HX.out) (fun hHeld=> ?_);clear hK K;try simp only[sA,sB,sC,Act.put,sD,sE,sF]
   refine mT 5 (h:= ?_);refine wpAnyH_ready (rs:=[1,6]) (by kernel_rfl) (by simp) ?_;refine(AllReadyH.cons (o:=_) rfl (fun K hK=> ?_) (AllReadyH.cons (o:=_) rfl (fun K hK=> ?_) AllReadyH.nil))
   ·have q3:=HBX.out.cells 3 _ rfl;go_simp;clear q3;refine hK.out _ _ (HKS.out _ HX.out) (fun hHeld=> ?_);clear hK K;try simp only[sA,sB,sC,Act.put,sD,sE,sF]
    refine wpAnyH_ready (rs:=[2,6]) (by kernel_rfl) (by simp) ?_;refine(AllReadyH.cons (o:=_) rfl (fun K hK=> ?_) (AllReadyH.cons (o:=_) rfl (fun K hK=> ?_) AllReadyH.nil))
    ·go_simp;(go_at_call 52;(with_reducible refine(Vd HZN HLZ1 HX HSZ1 (zH h0) (zH (by omega))).mono ?_);rintro e w115 ⟨gi,ci,rfl,ho,hA⟩;have HO:=zH (jI ho HX.out.size);replace HX:=zj HX hA;replace HBX:=zH (HBX.out.keep hA (zf.lt HBX.out));replace HC:=zH (HC.out.keep hA (zf.lt HC.out));clear ho hA)
     refine hK.out _ _ (HKS.out _ HX.out) (fun hHeld=> ?_);clear hK K;try simp only[sA,sB,sC,Act.put,sD,sE,sF]
     refine wpAnyH_ready (rs:=[6]) (by kernel_rfl) (by simp) ?_;refine AllReadyH.cons (o:=_) rfl (fun K hK=> ?_) AllReadyH.nil;go_simp;have hA:Below w115.heap.size w115 (w115.alloc (.cells #[.slice none 0 0,.slice none 0 0,.int .i64 0,.int .i64 0,.slice (some ⟨gc,0,none⟩) 1 1,.int .i64 0,.int .i64 0,.slice none 0 0] 42)):=(zb _ _).alloc (zn _) _;have HT:Hid (zf (w115.alloc (.cells #[.slice none 0 0,.slice none 0 0,.int .i64 0,.int .i64 0,.slice (some ⟨gc,0,none⟩) 1 1,.int .i64 0,.int .i64 0,.slice none 0 0] 42)) w115.heap.size [.slice none 0 0,.slice none 0 0,.int .i64 0,.int .i64 0,.slice (some ⟨gc,0,none⟩) 1 1,.int .i64 0,.int .i64 0,.slice none 0 0] 42):=zH (zf.new w115 [.slice none 0 0,.slice none 0 0,.int .i64 0,.int .i64 0,.slice (some ⟨gc,0,none⟩) 1 1,.int .i64 0,.int .i64 0,.slice none 0 0] 42);replace HX:=zj HX hA;replace HBX:=zH (HBX.out.keep hA (zf.lt HBX.out));replace HO:=zH (qG HO.out hA (VG HO.out));replace HC:=zH (HC.out.keep hA (zf.lt HC.out));clear hA;generalize w115.alloc (.cells #[.slice none 0 0,.slice none 0 0,.int .i64 0,.int .i64 0,.slice (some ⟨gc,0,none⟩) 1 1,.int .i64 0,.int .i64 0,.slice none 0 0] 42)=w116 at HX HBX HT HO HC⊢;generalize w115.heap.size=gt at HT⊢
     exact YQ
    ·go_simp;have hA:Below w114.heap.size w114 (w114.alloc (.cells #[.slice none 0 0,.slice none 0 0,.int .i64 0,.int .i64 0,.slice (some ⟨gc,0,none⟩) 1 1,.int .i64 0,.int .i64 0,.slice none 0 0] 42)):=(zb _ _).alloc (zn _) _;have HT:Hid (zf (w114.alloc (.cells #[.slice none 0 0,.slice none 0 0,.int .i64 0,.int .i64 0,.slice (some ⟨gc,0,none⟩) 1 1,.int .i64 0,.int .i64 0,.slice none 0 0] 42)) w114.heap.size [.slice none 0 0,.slice none 0 0,.int .i64 0,.int .i64 0,.slice (some ⟨gc,0,none⟩) 1 1,.int .i64 0,.int .i64 0,.slice none 0 0] 42):=zH (zf.new w114 [.slice none 0 0,.slice none 0 0,.int .i64 0,.int .i64 0,.slice (some ⟨gc,0,none⟩) 1 1,.int .i64 0,.int .i64 0,.slice none 0 0] 42);replace HX:=zj HX hA;replace HBX:=zH (HBX.out.keep hA (zf.lt HBX.out));replace HC:=zH (HC.out.keep hA (zf.lt HC.out));clear hA;generalize w114.alloc (.cells #[.slice none 0 0,.slice none 0 0,.int .i64 0,.int .i64 0,.slice (some ⟨gc,0,none⟩) 1 1,.int .i64 0,.int .i64 0,.slice none 0 0] 42)=w118 at HX HBX HT HC⊢;generalize w114.heap.size=gt at HT⊢
     refine hK.out _ _ (HKS.out _ HX.out) (fun hHeld=> ?_);clear hK K;try simp only[sA,sB,sC,Act.put,sD,sE,sF]
     refine wpAnyH_ready (rs:=[2]) (by kernel_rfl) (by simp) ?_;refine AllReadyH.cons (o:=_) rfl (fun K hK=> ?_) AllReadyH.nil;go_simp;(go_at_call 52;(with_reducible refine(Vd HZN HLZ1 HX HSZ1 (zH h0) (zH (by omega))).mono ?_);rintro e w119 ⟨gi,ci,rfl,ho,hA⟩;have HO:=zH (jI ho HX.out.size);replace HX:=zj HX hA;replace HBX:=zH (HBX.out.keep hA (zf.lt HBX.out));replace HC:=zH (HC.out.keep hA (zf.lt HC.out));replace HT:=zH (HT.out.keep hA (zf.lt HT.out));clear ho hA)
     exact YQ
   ·go_simp;have hA:Below w114.heap.size w114 (w114.alloc (.cells #[.slice none 0 0,.slice none 0 0,.int .i64 0,.int .i64 0,.slice (some ⟨gc,0,none⟩) 1 1,.int .i64 0,.int .i64 0,.slice none 0 0] 42)):=(zb _ _).alloc (zn _) _;have HT:Hid (zf (w114.alloc (.cells #[.slice none 0 0,.slice none 0 0,.int .i64 0,.int .i64 0,.slice (some ⟨gc,0,none⟩) 1 1,.int .i64 0,.int .i64 0,.slice none 0 0] 42)) w114.heap.size [.slice none 0 0,.slice none 0 0,.int .i64 0,.int .i64 0,.slice (some ⟨gc,0,none⟩) 1 1,.int .i64 0,.int .i64 0,.slice none 0 0] 42):=zH (zf.new w114 [.slice none 0 0,.slice none 0 0,.int .i64 0,.int .i64 0,.slice (some ⟨gc,0,none⟩) 1 1,.int .i64 0,.int .i64 0,.slice none 0 0] 42);replace HX:=zj HX hA;replace HBX:=zH (HBX.out.keep hA (zf.lt HBX.out));replace HC:=zH (HC.out.keep hA (zf.lt HC.out));clear hA;generalize w114.alloc (.cells #[.slice none 0 0,.slice none 0 0,.int .i64 0,.int .i64 0,.slice (some ⟨gc,0,none⟩) 1 1,.int .i64 0,.int .i64 0,.slice none 0 0] 42)=w121 at HX HBX HT HC⊢;generalize w114.heap.size=gt at HT⊢
    refine hK.out _ _ (HKS.out _ HX.out) (fun hHeld=> ?_);clear hK K;try simp only[sA,sB,sC,Act.put,sD,sE,sF]
    refine wpAnyH_ready (rs:=[1]) (by kernel_rfl) (by simp) ?_;refine AllReadyH.cons (o:=_) rfl (fun K hK=> ?_) AllReadyH.nil;have q3:=HBX.out.cells 3 _ rfl;go_simp;clear q3;refine hK.out _ _ (HKS.out _ HX.out) (fun hHeld=> ?_);clear hK K;try simp only[sA,sB,sC,Act.put,sD,sE,sF]
    refine wpAnyH_ready (rs:=[2]) (by kernel_rfl) (by simp) ?_;refine AllReadyH.cons (o:=_) rfl (fun K hK=> ?_) AllReadyH.nil;go_simp;(go_at_call 52;(with_reducible refine(Vd HZN HLZ1 HX HSZ1 (zH h0) (zH (by omega))).mono ?_);rintro e w122 ⟨gi,ci,rfl,ho,hA⟩;have HO:=zH (jI ho HX.out.size);replace HX:=zj HX hA;replace HBX:=zH (HBX.out.keep hA (zf.lt HBX.out));replace HC:=zH (HC.out.keep hA (zf.lt HC.out));replace HT:=zH (HT.out.keep hA (zf.lt HT.out));clear ho hA)
    exact YQ
 case rest=>
  obtain⟨g6,c6,gc,HS⟩:=hcut;have hlow:=HB1.out.trans (HS.out.low.mono (zn _));have HIX:=zH (HS.out.image HNN.out HI.out HZS.out hlow);obtain⟨L,hL⟩:∃L,vh (jp m op a b) (m.methods.length:Int)=L:=⟨_,rfl⟩
  rw[hL]at HCR HCL HMOST;have HLC:=zH hL;have HLOW:=zH hlow;have HPT:Hid (∀t:Nat,t<n→wc.cell? ⟨g6,t*8+6,none⟩=some (.int .i64 (zm (jp m op a b) (t:Int)).pot)):=zH (fun t ht=>HS.out.pot HNN.out HZS.out.1 ht);have HGB:Hid (g6<wc.heap.size):=zH (VG HS.out.row g6 rfl);have HBW:=zH HS.out.box;have hzb:=zf.lt HS.out.box;clear hL hlow;have q0:=HBW.out.cells 0 _ rfl;have q1:=HBW.out.cells 1 _ rfl;have q2:=HBW.out.cells 2 _ rfl;have q3:=HBW.out.cells 3 _ rfl;have q4:=HBW.out.cells 4 _ rfl;have q5:=HBW.out.cells 5 _ rfl;have q6:=HBW.out.cells 6 _ rfl;go_wp2_with(go_at_call 53;(with_reducible refine(qpd (h:=⟨A0,A1,A2,some adM,A4,k0,k1,k2,k3,k4⟩) HNN HIX HCO HLC).mono ?_);rintro e w7 ⟨A7,c7,rfl,hs,_,hb⟩;have HS7:=zH hs;have HX7:=zH hb;clear hs hb)
  clear q0 q1 q2 q3 q4 q5 q6;have hc1:=HS7.out.le;have hc2:=HS7.out.cap;have hLl:=HCL.out;go_loopw [6,25] (fun v i wr=>∃k:Nat,k≤L.length∧i= .int .i64 k∧v= .int .i64 (jq (jp m op a b) (L.take k))∧Hid (Below w7.heap.size w7 wr)) (fun _ i _=>L.length - (intOf i).toNat)
  case atStart=>exact⟨0,Nat.zero_le _,rfl,rfl,zH (zb _ _)⟩
  case round=>
   obtain⟨k,hk,rfl,rfl,HY⟩:=hrel;by_cases hlt:k<L.length
   ·have hkl:(k:Int)<(L.length:Int):=by omega
    obtain⟨ad,rfl,hab,hc0⟩:=HS7.out.row.at_ hlt;have hcr:=HCR.out _ (List.getElem_mem hlt);have HTK:=zH (qbo (m:=jp m op a b) hlt);replace hc0:w7.cell? (ad.add k)=some (.int .i64 L[k]):=by have:=hc0;rw[Nat.mul_one]at this;exact this
    obtain⟨t,ht⟩:=Int.eq_ofNat_of_zero_le hcr.1;rw[ht]at hc0 hcr HTK;have hnn:=HNN.out;have htn:t<n:=by omega
    have hti:(t:Int)<((n+1:Nat):Int):=by omega
    have hti2:(t:Int)<(n:Int)+1:=by omega
    have hX:=HX7.out.trans (HY.out.mono HX7.out.size);have c1:=(HY.out.cell (p:=ad.add k) (by rw[zt];exact hab)).trans hc0;have c2:=(hX.cell (p:=⟨g6,t*8+6,none⟩) HGB.out).trans (HPT.out t htn);have q3:=(hX.cell (p:=⟨w.heap.size,3,none⟩) hzb).trans (HBW.out.cells 3 _ rfl);unfold jS at HTK;generalize jq (jp m op a b) (L.take k)=M at*
    generalize(zm (jp m op a b) (t:Int)).pot=P at*
    obtain⟨v,hv⟩:∃v,(if P>M then P else M)=v:=⟨_,rfl⟩
    have hmax:max M P=v:=by rw[Int.max_def,←hv];split<;>split<;>omega
    rw[hv]at HTK;clear hX hc0 ht hnn hcr;go_wp2_with fail
    go_roundw;case rel=>exact⟨k+1,by omega,by go_num,by rw[HTK.out],HY⟩
    case measure=>simp[intOf];omega
   ·obtain rfl:k=L.length:=by omega
    rw[List.take_length,HMOST.out];go_wp2_with fail
    go_ret;exact⟨rfl,HLOW.out.trans ((HX7.out.trans (HY.out.mono HX7.out.size)).mono HLOW.out.size)⟩
theorem qbq{m:za}{n:Nat}{op a b v:Int}{h:zl}{w0 w:World}(HI:Hid (zp w0 w0.heap.size h m))(HX:Hid (Below w0.heap.size w0 w))(HN:Hid (m.methods.length=n))(HC:Hid (m.classes.length≤1000∧n≤1000∧0<n∧(∀x ∈m.methods,x.code.length≤1048576)∧∀t ∈qj m op a b,0≤t∧t<m.methods.length))(HV:Hid (jq m (qj m op a b)=v)):
  Calls Tryz.prog 27 #[zr h m,zF op a b] w fun e w'=>e= .returned (.int .i64 v)∧Below w.heap.size w w':=by
 have H:=qla m n op a b h w (HI.out.now HX.out) HN.out HC.out.1 HC.out.2.1 HC.out.2.2.1 HC.out.2.2.2.1 HC.out.2.2.2.2;rw[HV.out]at H;exact H
theorem qpb{m:za}{c v:Int}{h:zl}{w0 w:World}(HI:Hid (zp w0 w0.heap.size h m))(HX:Hid (Below w0.heap.size w0 w))(HC:Hid (m.classes.length≤1000∧∀x ∈m.classes,x.fields.length≤1000))(HV:Hid (1+((qS m.classes c).length:Int)=v)):
  Calls Tryz.prog 26 #[zr h m,.int .i64 c] w fun e w'=>e= .returned (.int .i64 v)∧Below w.heap.size w w':=by
 have H:=qn3 m c h w (HI.out.now HX.out) HC.out.1 HC.out.2;rw[HV.out]at H;exact H
set_option maxHeartbeats 3200000 in
theorem q4v(m:za)(x:ze)(op a b:Int)(h:zl)(w:World)(H:zp w w.heap.size h m)(hm:zP m)(hx:x ∈m.methods)(hi:(op,a,b) ∈x.code):
  Calls Tryz.prog 12 #[zr h m,zF op a b] w fun e w'=>e= .returned (.int .i64 (jx m op a b))∧Below w.heap.size w w':=by
 have hs:=q16 ((hm.method hx).fits.ct _ hi);dsimp only at hs;obtain⟨n,hn⟩:∃n,m.methods.length=n:=⟨_,rfl⟩
 have hnp:0<n:=by rw[←hn];exact List.length_pos_of_mem hx
 have HC1:Hid (m.classes.length≤1000∧∀x ∈m.classes,x.fields.length≤1000):=zH ⟨by have:=hm.fits.cl;omega,fun c hc=>by have:=(hm.fits.ct c hc).fl;omega⟩;have HC2:Hid (m.classes.length≤1000∧n≤1000∧0<n∧(∀x ∈m.methods,x.code.length≤1048576)∧∀t ∈qj m op a b,0≤t∧t<m.methods.length):=zH ⟨by have:=hm.fits.cl;omega,by have:=hm.fits.ml;omega,hnp,fun y hy=>by have:=(hm.method hy).fits.cl;omega,q8n hm hx hi⟩;have HN:=zH hn;obtain⟨V,hV⟩:∃V,jx m op a b=V:=⟨_,rfl⟩
 have HV:=zH hV;rw[hV];obtain⟨hq,hc,hb,hz⟩:=Va h m op a b w;have HW:=zH hb;have HC:=zH hc;have HBX:=zH hq;have HIM:=zH (H.now hb);clear hb hq hc hz H hn hV hm hx hi hnp;go_enter Tryz.func12,Tryz.ntmps12;go_upto_region 1 with fail
 generalize(w.alloc (zq h m)).alloc (.cells #[.int .i64 op,.int .i64 a,.int .i64 b] 45)=w1 at*
 have HX0:Hid (Below w1.heap.size w1 w1):=zH (zb _ _);obtain⟨q0,q1,q2,q3,q4,q5,q6⟩:=HBX.out;have j0:=HC.out 0 _ rfl;have j1:=HC.out 1 _ rfl;have j2:=HC.out 2 _ rfl;by_cases h22:op=22
 ·subst h22;have HV1:Hid (1+((qS m.classes a).length:Int)=V):=zH (by have:=HV.out;unfold jx at this;rw[if_pos rfl]at this;exact this);go_wp2_with(go_at_call 26;(with_reducible refine(qpb HIM HX0 HC1 HV1).mono ?_);rintro e w5 ⟨rfl,hb⟩;have HX:=zH hb;clear hb)
  go_ret;exact⟨rfl,HW.out.trans (HX.out.mono HW.out.size)⟩
 by_cases h23:op=23
 ·subst h23;have e:1+a=V:=by have:=HV.out;unfold jx at this;rw[if_neg (by decide),if_pos rfl]at this;exact this
  subst e;go_wp2_with fail
  go_ret;exact⟨rfl,HW.out⟩
 have e:jq m (qj m op a b)=V:=by have:=HV.out;unfold jx at this;rw[if_neg h22,if_neg h23]at this;exact this
 by_cases h31:op=31
 ·subst h31;have HV1:=zH e;clear e;go_wp2_with(go_at_call 27;(with_reducible refine(qbq HIM HX0 HN HC2 HV1).mono ?_);rintro e w5 ⟨rfl,hb⟩;have HX:=zH hb;clear hb)
  go_ret;exact⟨rfl,HW.out.trans (HX.out.mono HW.out.size)⟩
 by_cases h32:op=32
 ·subst h32;have HV1:=zH e;clear e;go_wp2_with(go_at_call 27;(with_reducible refine(qbq HIM HX0 HN HC2 HV1).mono ?_);rintro e w5 ⟨rfl,hb⟩;have HX:=zH hb;clear hb)
  go_ret;exact⟨rfl,HW.out.trans (HX.out.mono HW.out.size)⟩
 have e0:0=V:=by
  rw[←e];unfold qj;rw[if_neg h31,if_neg h32];rfl
 subst e0;clear e;go_wp2_with fail
 go_ret;exact⟨rfl,HW.out⟩
theorem qoa{m:za}{x:ze}{op a b v:Int}{h:zl}{w0 w:World}(HI:Hid (zp w0 w0.heap.size h m))(HX:Hid (Below w0.heap.size w0 w))(HM:Hid (zP m))(HXM:Hid (x ∈m.methods))(HC:Hid ((op,a,b) ∈x.code))(HV:Hid (jx m op a b=v)):
  Calls Tryz.prog 12 #[zr h m,zF op a b] w fun e w'=>e= .returned (.int .i64 v)∧Below w.heap.size w w':=by
 have H:=q4v m x op a b h w (HI.out.now HX.out) HM.out HXM.out HC.out;rw[HV.out]at H;exact H
end Go.Proofs.YtdbfllajopcccaaGreat
