import Derived.Test.YtdbfllajopcccaaGreatFA23
import Derived.Test.YtdbfllajopcccaaGreatFA22
import Derived.Test.YtdbfllajopcccaaGreatFA24
import Derived.Test.YtdbfllajopcccaaGreatFA25
namespace Go.Proofs.YtdbfllajopcccaaGreat
set_option maxRecDepth 100000
set_option linter.unusedVariables false
set_option linter.unusedSimpArgs false
open Go.ChangeShapes Go.WideShapes Go.ChangeAt Go.RowKit
theorem qrb{st:List (Int×Int)}{n:Nat}(h:n<st.length)(e:st.length=n+1):st.getLast?.getD (0,0)=st[n]:=by
 rw[List.getLast?_eq_getElem?,e,Nat.add_sub_cancel,List.getElem?_eq_getElem h];rfl
theorem q7e{P:Prop}(h:P:=by
 go_wp2_with(first|(go_at_call 33;(with_reducible refine(QH HZR).mono ?_);rintro e w' ⟨rfl,hb⟩;have HX:=zj HX hb;have HXT:=zj HXT hb;have ku0:=(HCg.out.keep hb HGg.out) 0 _ rfl;have j0:=(HINS.out.keep HXT.out HLT.out) 0 _ rfl;clear hb))
 go_ret3
 rw[E2.out];exact kw 4 (HW2.out.trans ((HY.out.trans (HX.out.mono HY.out.size)).mono HW2.out.size))):P:=h
theorem q7d{P:Prop}(h:P:=by
 go_wp2_with(first|(go_at_call 33;(with_reducible refine(QH HZR).mono ?_);rintro e w' ⟨rfl,hb⟩;have HX:=zj HX hb;have HXT:=zj HXT hb;have ku0:=(HCg.out.keep hb HGg.out) 0 _ rfl;have j0:=(HINS.out.keep HXT.out HLT.out) 0 _ rfl;clear hb))
 go_roundw;case rel=>exact⟨k+1,by omega,by go_num,HR2,HX⟩
 case measure=>simp[intOf];omega):P:=h
set_option maxHeartbeats 3200000 in
theorem qqq(m:za)(x:ze)(f pc:Nat)(op a b:Int)(st:List (Int×Int))(A:Option Addr)(cap:Nat)(h:zl)(w:World)(H:zp w w.heap.size h m)(hm:zP m)
  (hg:m.methods[f]? =some x) (hi:jb op a b=true) (hn:zQ m x op a b=true) (hpc:x.code[pc]? =some (op,a,b)) (hst:zd zi 2 w w.heap.size A cap st) (hs:st.length≤4000) (H6:Hid (op=6)):
  Calls Tryz.prog 16 #[zr h m,.int .i64 f,.int .i64 pc,.slice A st.length cap] w (Zf (qr m x pc op a b st) w):=by
 have hk:f<m.methods.length:=(List.getElem?_eq_some_iff.mp hg).1;have hx:m.methods[f]=x:=(List.getElem?_eq_some_iff.mp hg).2;have hpl:pc<x.code.length:=(List.getElem?_eq_some_iff.mp hpc).1;have hpi:x.code[pc]=(op,a,b):=(List.getElem?_eq_some_iff.mp hpc).2;have hle:=H.methods.le;have hcap:=H.methods.cap;have slen:=hst.le;have scap:=hst.cap;have HRU:=zH (fun W hW=>q0a m x f op a b h W hW hm hg hi hn);obtain⟨o0,o1,a0,a1,b0,b1⟩:=Za hi;have HW:=zH (((zb w.heap.size w).alloc (zn _) (zq h m)));have HIM:=zH (H.now HW.out);have HBX:=zH (qf w h m);have HZ:Hid (w.heap.size<(w.alloc (zq h m)).heap.size):=zH (by simp);have HST:=zH ((hst.below_to zi.keeps HW.out (zn _)).keep' zi.keeps HW.out.size (fun _ _=>rfl));have HCL:Hid (m.classes.length≤1000):=zH (by have:=hm.fits.cl;omega);have HCO:Hid (x.code.length≤1048576):=zH (by have:=(hm.method (List.mem_of_getElem? hg)).fits.cl;omega);clear H hg hi hn hst hm hpc;go_enter Tryz.func16,Tryz.ntmps16;go_upto_region 1 with fail
 generalize w.alloc (zq h m)=w1 at*
 obtain⟨q0,q1,q2,q3,q4,q5,q6⟩:=HBX.out;obtain⟨ad,hx',eA,hab,hin,hc⟩:=jB HIM.out hk;rw[hx]at hin hc;have ccap:=hin.code.cap;have cle:=hin.code.le;have hco:=HCO.out;obtain⟨ac,eC,hac,i0,i1,i2⟩:=hin.code.row.at_ hpl;rw[hpi]at i0 i1 i2;dsimp only at i0 i1 i2;have HMC:=zH hc;have HAB:=zH (show(ad.add (f*8)).block<w1.heap.size by rw[zt];exact hab);have c4:=hc.c4;have HEA:=zH eA;have HEC:=zH eC;rw[eA]at q3;rw[eC]at c4;clear hin hc eA eC hab;have g0:¬(f:Int)<0:=by omega
 have g1:¬(m.methods.length:Int)≤f:=by omega
 have g2:¬(pc:Int)<0:=by omega
 have g3:¬(x.code.length:Int)≤pc:=by omega
 have hw1:IntKind.i64.wrap ((pc:Int)+1)=(pc:Int)+1:=IntWalk.i64_in _ (by omega);go_upto_region 4 with fail
 have HINS:=zH (qd w1 [.int .i64 op,.int .i64 a,.int .i64 b] 45);have HX:=zH ((zb w1.heap.size w1).alloc (zn _) (.cells #[.int .i64 op,.int .i64 a,.int .i64 b] 45));have HZ2:Hid (w1.heap.size<(w1.alloc (.cells #[.int .i64 op,.int .i64 a,.int .i64 b] 45)).heap.size):=zH (by simp);clear q0 q1 q2 q3 q4 q5 q6 c4 i0 i1 i2;change Code.wp _ _ _ _ (w1.alloc (.cells [Value.int .i64 op,.int .i64 a,.int .i64 b].toArray 45));generalize w1.alloc (.cells [Value.int .i64 op,.int .i64 a,.int .i64 b].toArray 45)=w2 at*
 have hs2:=HX.out.size;have HW2:=zH (HW.out.trans (HX.out.mono HW.out.size));have HBX2:=zH (HBX.out.keep HX.out HZ.out);have HZB:Hid (w.heap.size<w2.heap.size):=zH (Nat.lt_of_lt_of_le HZ.out hs2);have HIM2:=zH (HIM.out.now HX.out);have HST2:=zH ((HST.out.below_to zi.keeps HX.out (zn _)).keep' zi.keeps HX.out.size (fun _ _=>rfl));have HMC2:=zH (HMC.out.keep HX.out HAB.out);have HAB2:Hid ((ad.add (f*8)).block<w2.heap.size):=zH (Nat.lt_of_lt_of_le HAB.out hs2);have HLT:Hid (w1.heap.size<w2.heap.size):=zH HZ2.out;clear HBX HIM HST HMC HAB HZ hs2;go_upto_region 5 with fail
 have HN3:=zH (qd w2 [.int .i64 ((pc:Int)+1)] 3);have HY:=zH ((zb w2.heap.size w2).alloc (zn _) (.cells #[.int .i64 ((pc:Int)+1)] 3));have HZ3:Hid (w2.heap.size<(w2.alloc (.cells #[.int .i64 ((pc:Int)+1)] 3)).heap.size):=zH (by simp);change Code.wp _ _ _ _ (w2.alloc (.cells [Value.int .i64 ((pc:Int)+1)].toArray 3));generalize w2.alloc (.cells [Value.int .i64 ((pc:Int)+1)].toArray 3)=w3 at*
 have n0:=HN3.out 0 _ rfl;have HNX:Hid (zd zo 1 w3 w3.heap.size (some ⟨w2.heap.size,0,none⟩) 1 [(pc:Int)+1]):=zH (QD HZ3.out n0);obtain⟨q0,q1,q2,q3,q4,q5,q6⟩:=HBX2.out.keep HY.out HZB.out;rw[HEA.out]at q3;have c4:=(HMC2.out.keep HY.out HAB2.out).c4;rw[HEC.out]at c4;obtain⟨j0,j1,j2⟩:=zJ (HINS.out.keep HY.out HLT.out);have n18:¬op=18:=by rw[H6.out];decide
 have b6:(op==6)=true:=beq_iff_eq.mpr H6.out;have en:qE pc op a=[(pc:Int)+1]:=by rw[H6.out];rfl
 have n33:¬op=33:=by rw[H6.out];decide
 have n19:¬op=19:=by rw[H6.out];decide
 go_upto_region 11 with fail
 by_cases hov:(x.code.length:Int)≤(pc:Int)+1
 ·exact q7q
 by_cases hst0:st=[]
 ·have E2:Hid (qr m x pc op a b []=qL 4):=zH (by rw[H6.out];exact q4h);subst hst0;obtain⟨nl,hnl⟩:∃nl,[(pc:Int)+1]=nl:=⟨_,rfl⟩
  have hnll:nl.length=1:=by rw[←hnl];rfl
  have HNL:=zH hnll;go_region_held3 (fun w'=>w'.cell? ⟨w.heap.size,3,none⟩=some (.slice (some ad) m.methods.length h.c3)∧w'.cell? ⟨(ad.add (f*8)).block,(ad.add (f*8)).off+4,none⟩=some (.slice (some ac) x.code.length hx'.k4)∧w'.cell? ⟨w2.heap.size,0,none⟩=some (.int .i64 ((pc:Int)+1))) (first|exact⟨q3,c4,n0⟩) (first|fail)
  rename_i hHeld;clear hHeld;have HY:=zH HY.out.drew;have HNX:Hid (zd zo 1 w3.drew w3.drew.heap.size (some ⟨w2.heap.size,0,none⟩) 1 nl):=zH (hnl ▸ HNX.out.keep' zo.keeps (zn _) (fun _ _=>rfl));clear hnl;generalize w3.drew=w4 at*
  clear q0 q1 q2 q3 q4 q5 q6 c4 j0 j1 j2 n0 HN3 HZ3;obtain⟨TK0,hTK⟩:∃TK0,zE m x op a b=TK0:=⟨_,rfl⟩
  obtain⟨GV0,hGV⟩:∃GV0,zB m x op a b=GV0:=⟨_,rfl⟩
  rw[hTK,hGV]at HRU;clear hTK hGV;obtain⟨q0,q1,q2,q3,q4,q5,q6⟩:=HBX2.out.keep HY.out HZB.out;obtain⟨j0,j1,j2⟩:=zJ (HINS.out.keep HY.out HLT.out);go_upto_region 14 with(first|(go_at_call 32;go_loud ((with_reducible refine(HRU.out _ (HIM2.out.now HY.out)).mono ?_);rintro e w5 ⟨At,ct,Ag,cg,rfl,hT,hG,hb⟩;have HT:=zH hT;have HG:=zH hG;have HNX:=zH (HNX.out.keep' zo.keeps hb.size (fun _ hq=>hb.cell hq));have HY:=zj HY hb;clear hT hG hb;obtain⟨q0,q1,q2,q3,q4,q5,q6⟩:=HBX2.out.keep HY.out HZB.out;obtain⟨j0,j1,j2⟩:=zJ (HINS.out.keep HY.out HLT.out))))
  go_wp2_with fail
  go_ret3
  rw[E2.out];exact kw 4 (HW2.out.trans (HY.out.mono HW2.out.size))
 have E0:=zH (QS (m:=m) (x:=x) (b:=b) (st:=st) (pc:=(pc:Int)) (op:=op) (a:=a) (by rw[en];simpa using hov) (fun q=>hst0 q.2));rw[show qO m x op a b st=[(0,0)]by unfold qO;rw[if_pos ⟨H6.out,hst0⟩],show ju m x op a b st=[st.getLast?.getD (0,0),st.getLast?.getD (0,0)]by unfold ju;rw[if_pos ⟨H6.out,hst0⟩],en]at E0;have hpos:0<st.length:=List.length_pos_iff.mpr hst0;obtain⟨n,hn⟩:∃n,st.length=n+1:=⟨st.length - 1,by omega⟩
 have hnl':n<st.length:=by omega
 rw[qrb hnl' hn]at E0;have hw5:IntKind.i64.wrap ((st.length:Int) - 1)=(n:Int):=by rw[IntWalk.i64_in _ (by omega)];omega
 have hgt:(0:Int)<(st.length:Int):=by omega
 have hne:¬(st.length:Int)=0:=by omega
 have bne0:((st.length:Int)==0)=false:=beq_eq_false_iff_ne.mpr hne;have HN1:=zH hn;clear hst0 hn;obtain⟨t,ht⟩:∃t,st[n]=t:=⟨_,rfl⟩
 have HTN:=zH ht;rw[ht]at E0;clear ht;obtain⟨t0,t1⟩:=t;obtain⟨nl,hnl⟩:∃nl,[(pc:Int)+1]=nl:=⟨_,rfl⟩
 have hnll:nl.length=1:=by rw[←hnl];rfl
 have HNL:=zH hnll;go_region_held3 (fun w'=>w'.cell? ⟨w.heap.size,3,none⟩=some (.slice (some ad) m.methods.length h.c3)∧w'.cell? ⟨(ad.add (f*8)).block,(ad.add (f*8)).off+4,none⟩=some (.slice (some ac) x.code.length hx'.k4)∧w'.cell? ⟨w2.heap.size,0,none⟩=some (.int .i64 ((pc:Int)+1))) (first|exact⟨q3,c4,n0⟩) (first|fail)
 rename_i hHeld;clear hHeld;have HY:=zH HY.out.drew;have HNX:Hid (zd zo 1 w3.drew w3.drew.heap.size (some ⟨w2.heap.size,0,none⟩) 1 nl):=zH (hnl ▸ HNX.out.keep' zo.keeps (zn _) (fun _ _=>rfl));rw[hnl]at E0;clear hnl;generalize w3.drew=w4 at*
 clear q0 q1 q2 q3 q4 q5 q6 c4 j0 j1 j2 n0 HN3 HZ3;obtain⟨TK0,hTK⟩:∃TK0,zE m x op a b=TK0:=⟨_,rfl⟩
 obtain⟨GV0,hGV⟩:∃GV0,zB m x op a b=GV0:=⟨_,rfl⟩
 rw[hTK,hGV]at HRU;clear hTK hGV;obtain⟨q0,q1,q2,q3,q4,q5,q6⟩:=HBX2.out.keep HY.out HZB.out;obtain⟨j0,j1,j2⟩:=zJ (HINS.out.keep HY.out HLT.out);go_upto_region 14 with(first|(go_at_call 32;go_loud ((with_reducible refine(HRU.out _ (HIM2.out.now HY.out)).mono ?_);rintro e w5 ⟨At,ct,Ag,cg,rfl,hT,hG,hb⟩;have HT:=zH hT;have HG:=zH hG;have HNX:=zH (HNX.out.keep' zo.keeps hb.size (fun _ hq=>hb.cell hq));have HY:=zj HY hb;clear hT hG hb;obtain⟨q0,q1,q2,q3,q4,q5,q6⟩:=HBX2.out.keep HY.out HZB.out;obtain⟨j0,j1,j2⟩:=zJ (HINS.out.keep HY.out HLT.out))))
 obtain⟨TK,hTK⟩:∃TK,[((0,0):Int×Int)]=TK:=⟨_,rfl⟩
 obtain⟨GV,hGV⟩:∃GV,[((t0,t1):Int×Int),(t0,t1)]=GV:=⟨_,rfl⟩
 rw[hTK,hGV]at E0;have HTK:=zH hTK.symm;have HGV:=zH hGV.symm;have HGL:Hid (GV.length≤2):=zH (by rw[←hGV];exact zn _);clear hTK hGV HT HG;go_upto_region 15 with fail
 go_cut [15] (fun s wx=>∃g:Nat,s= .pointer (some ⟨g,0,none⟩)∧Hid (zT wx g [.int .i64 t0,.int .i64 t1])∧Hid (Below w5.heap.size w5 wx)∧Hid (g<wx.heap.size))
 case first=>
  obtain⟨ad1,rfl,hb1,s0,s1⟩:=HST2.out.row.at_ hnl';rw[HTN.out]at s0 s1;dsimp only at s0 s1;have p0:=(HY.out.cell (p:=ad1.add (n*2)) (by rw[zt];exact hb1)).trans s0;have p1:=(HY.out.cell (p:=zc (ad1.add (n*2)) 1) (by show(ad1.add (n*2)).block<_;rw[zt];exact hb1)).trans s1;clear s0 s1 hb1;go_wp2_with fail
  go_meet
  exact⟨_,rfl,zH (qd w5 [.int .i64 t0,.int .i64 t1] 39),zH ((zb w5.heap.size w5).alloc (zn _) _),zH (by simp)⟩
 case rest=>
  obtain⟨g5,rfl,HC5,HX5,HG5⟩:=hcut;have HNX:=zH (HNX.out.keep' zo.keeps HX5.out.size (fun _ hq=>HX5.out.cell hq));have HY:=zH (HY.out.trans (HX5.out.mono HY.out.size));clear q0 q1 q2 q3 q4 q5 q6 j0 j1 j2 HX5;generalize wc=w6 at*
  have ku0:=HC5.out 0 _ rfl;have ku1:=HC5.out 1 _ rfl;go_upto_region 16 with fail
  go_cut [13,14] (fun s13 s14 wx=>∃At ct Ag cg,s13= .slice At TK.length ct∧s14= .slice Ag GV.length cg∧Hid (zd zi 2 wx wx.heap.size At ct TK)∧Hid (zd zi 2 wx wx.heap.size Ag cg GV)∧Hid (Below w6.heap.size w6 wx))
  case first=>
   have e1:=World.new_ne w6 _ ku0;go_region_held3 (fun w'=>w'.cell? ⟨g5,0,none⟩=some (.int .i64 t0)∧w'.cell? ⟨g5,1,none⟩=some (.int .i64 t1)) (go_keep) (first|fail)
   all_goals
    go_wp2_with fail
    go_meet
    refine⟨_,_,_,_,by rw[HTK.out];rfl,by rw[HGV.out];rfl,zH ?_,zH ?_,zH ?_⟩
    ·rw[HTK.out];exact vi (by simp<;>omega) (by go_simp) (by go_simp)
    ·rw[HGV.out];exact q2s (by simp<;>omega) (by go_simp) (by go_simp) (by go_simp) (by go_simp)
    ·exact(((zb w6.heap.size w6).alloc (zn _) _).alloc (by simp) _).drew
  case rest=>
   obtain⟨At,ct,Ag,cg,rfl,rfl,HT,HG,HX6⟩:=hcut;have HNX:=zH (HNX.out.keep' zo.keeps HX6.out.size (fun _ hq=>HX6.out.cell hq));have HY:=zH (HY.out.trans (HX6.out.mono HY.out.size));generalize wc=w5 at*
   clear ku0 ku1 HX6 HC5 HG5;obtain⟨q0,q1,q2,q3,q4,q5,q6⟩:=HBX2.out.keep HY.out HZB.out;obtain⟨j0,j1,j2⟩:=zJ (HINS.out.keep HY.out HLT.out);have htl:=HT.out.le;have htc:=HT.out.cap;have hgl:=HGL.out;by_cases hs1:st.length<TK.length
   ·exact VK
   have hw2:IntKind.i64.wrap ((st.length:Int) - (TK.length:Int))=((st.length - TK.length:Nat):Int):=by rw[IntWalk.i64_in _ (by omega)];omega
   obtain⟨d,hd⟩:∃d,st.length - TK.length=d:=⟨_,rfl⟩
   rw[hd]at hw2;have hw3:IntKind.i64.wrap ((d:Int)+(GV.length:Int))=(d:Int)+(GV.length:Int):=IntWalk.i64_in _ (by omega);by_cases hs2:8<d+GV.length
   ·exact VL
   have E1:=zH (E0.out.trans (q0d hd hs1 hs2));obtain⟨Z,hZ⟩:∃Z,(st.drop d).zip TK=Z:=⟨_,rfl⟩
   have hZl:Z.length=TK.length:=by rw[←hZ,List.length_zip,List.length_drop];omega
   have HZK:Hid (∀k (h1:d+k<st.length) (h2:k<TK.length) (h3:k<Z.length),Z[k]=(st[d+k],TK[k])):=zH (by subst hZ;intro k h1 h2 h3;simp);rw[hZ]at E1;have HZl:=zH hZl;clear E0 hZ hZl;have hdl:d+TK.length=st.length:=by omega
   have hs8:d≤8:=by omega
   go_wp2_with fail
   go_loopw [17] (fun i wr=>∃k:Nat,k≤TK.length∧i= .int .i64 k∧Hid (∀p ∈Z.take k,qk (zw m.classes) op p.1 p.2=true)∧Hid (Below w5.heap.size w5 wr)) (fun i _=>TK.length - (intOf i).toNat)
   case atStart=>exact⟨0,by omega,rfl,zH (by simp),zH (zb _ _)⟩
   case round=>
    clear q0 q1 q2 q3 q4 q5 q6 j0 j1 j2;obtain⟨k,hk,rfl,HN,HX⟩:=hrel;by_cases hlt:k<TK.length
    ·have hkZ:k<Z.length:=by rw[HZl.out];exact hlt
     obtain⟨j,hj⟩:∃j,d+k=j:=⟨_,rfl⟩
     have hdk:j<st.length:=by omega
     have hZk:=HZK.out k (by omega) hlt hkZ;simp only[hj]at hZk;obtain⟨ad1,rfl,hb1,s0,s1⟩:=HST2.out.row.at_ hdk;obtain⟨ad2,rfl,hb2,v0,v1⟩:=HT.out.row.at_ hlt;have HXT:=zH (HY.out.trans (HX.out.mono HY.out.size));have p0:=(HXT.out.cell (p:=ad1.add (j*2)) (by rw[zt];exact hb1)).trans s0;have p1:=(HXT.out.cell (p:=zc (ad1.add (j*2)) 1) (by show(ad1.add (j*2)).block<_;rw[zt];exact hb1)).trans s1;have r0:=(HX.out.cell (p:=ad2.add (k*2)) (by rw[zt];exact hb2)).trans v0;have r1:=(HX.out.cell (p:=zc (ad2.add (k*2)) 1) (by show(ad2.add (k*2)).block<_;rw[zt];exact hb2)).trans v1;have HNO:=zH (fun g:(fun p:(Int×Int)×(Int×Int)=>qk (zw m.classes) op p.1 p.2) Z[k]=false=>Zx (f:=(fun p:(Int×Int)×(Int×Int)=>qk (zw m.classes) op p.1 p.2)) hkZ g);have HYE:=zH (fun g:(fun p:(Int×Int)×(Int×Int)=>qk (zw m.classes) op p.1 p.2) Z[k]=true=>Zc (f:=(fun p:(Int×Int)×(Int×Int)=>qk (zw m.classes) op p.1 p.2)) hkZ HN.out g);rw[hZk]at HNO HYE;clear hZk;generalize st[j]=t at*
     generalize TK[k]=u at*
     obtain⟨t0,t1⟩:=t;obtain⟨u0,u1⟩:=u;dsimp only at p0 p1 r0 r1;have hw4:IntKind.i64.wrap ((d:Int)+(k:Int))=(j:Int):=by rw[IntWalk.i64_in _ (by omega)];omega
     clear s0 s1 v0 v1 hb1 hb2;go_upto_region 23 with fail
     go_cut [18,19] (fun s18 s19 wx=>∃g g':Nat,s18= .pointer (some ⟨g,0,none⟩)∧s19= .pointer (some ⟨g',0,none⟩)∧Hid (zT wx g [.int .i64 t0,.int .i64 t1])∧Hid (zT wx g' [.int .i64 u0,.int .i64 u1])∧Hid (Below wr.heap.size wr wx)∧Hid (g<wx.heap.size)∧Hid (g'<wx.heap.size))
     case first=>
      exact VO
     case rest=>
      obtain⟨g,g',rfl,rfl,HCg,HCh,HXk,HGg,HGh⟩:=hcut;have HX:=zH (HX.out.trans (HXk.out.mono HX.out.size));have HXT:=zH (HXT.out.trans (HXk.out.mono HXT.out.size));have HXc:=zH (zb wc.heap.size wc);clear HXk p0 p1 r0 r1;have ku0:=HCg.out 0 _ rfl;have ku1:=HCg.out 1 _ rfl;have kv0:=HCh.out 0 _ rfl;have kv1:=HCh.out 1 _ rfl;obtain⟨q0,q1,q2,q3,q4,q5,q6⟩:=HBX2.out.keep HXT.out HZB.out;have j0:=(HINS.out.keep HXT.out HLT.out) 0 _ rfl;by_cases hu0:u0=0
      ·subst hu0;exact VM
      have bu0:(u0==0)=false:=beq_eq_false_iff_ne.mpr hu0;obtain⟨r,hr⟩:∃r,qk (zw m.classes) op (t0,t1) (u0,u1)=r:=⟨_,rfl⟩
      by_cases hu4:u0=4
      ·subst hu4;have HD:=zH (jQ.symm.trans hr);obtain⟨z,hz⟩:∃z,jO t0=z:=⟨_,rfl⟩
       have HZR:=zH hz;cases z
       ·have E2:=zH (E1.out.trans (if_neg (by rw[HNO.out (jQ.trans (by rw[hz];rfl))];decide)));clear hz hr HD;exact q7e
       ·by_cases h34:op=34
        ·by_cases ht2:t0=2
         ·have E2:=zH (E1.out.trans (if_neg (by rw[HNO.out (jQ.trans (by rw[h34,ht2];rfl))];decide)));clear hz hr HD;have b34:(op==34)=true:=beq_iff_eq.mpr h34;have bt2:(t0==2)=true:=beq_iff_eq.mpr ht2;clear h34 ht2;exact q7e
         ·have HR2:=zH (HYE.out (jQ.trans (by rw[hz,decide_eq_false ht2,Bool.and_false];rfl)));clear hz hr HD;have b34:(op==34)=true:=beq_iff_eq.mpr h34;have bt2:(t0==2)=false:=beq_eq_false_iff_ne.mpr ht2;clear h34;exact q7d
        ·have HR2:=zH (HYE.out (jQ.trans (by rw[hz,decide_eq_false h34,Bool.false_and];rfl)));clear hz hr HD;have b34:(op==34)=false:=beq_eq_false_iff_ne.mpr h34;exact q7d
      ·exact VN
    ·exact q7r
theorem q4n(m:za)(f pc:Int)(st:List (Int×Int))(A:Option Addr)(cap:Nat)(h:zl)(w:World)(H:zp w w.heap.size h m)(hm:zP m)(hst:zd zi 2 w w.heap.size A cap st)(hs:st.length≤4000):
  Calls Tryz.prog 16 #[zr h m,.int .i64 f,.int .i64 pc,.slice A st.length cap] w (Zf (zK m f pc st) w):=by
 by_cases f0:f<0
 ·exact qgj m f pc st A cap h w H f0
 by_cases f1:(m.methods.length:Int)≤f
 ·exact qgi m f pc st A cap h w H (by omega) f1
 by_cases p0:pc<0
 ·exact qgh m f pc st A cap h w H (by omega) (by omega) p0
 obtain⟨F,rfl⟩:=Int.eq_ofNat_of_zero_le (show 0≤f by omega);obtain⟨P,rfl⟩:=Int.eq_ofNat_of_zero_le (show 0≤pc by omega);have hF:F<m.methods.length:=by omega
 obtain⟨x,hx⟩:∃x,m.methods[F]? =some x:=⟨_,List.getElem?_eq_getElem hF⟩
 by_cases p1:(x.code.length:Int)≤P
 ·exact qgg m x F P st A cap h w H hx (by omega) p1
 have hP:P<x.code.length:=by omega
 obtain⟨⟨op,a,b⟩,hi⟩:∃i,x.code[P]? =some i:=⟨_,List.getElem?_eq_getElem hP⟩
 have e:zK m (F:Int) (P:Int) st=qr m x P op a b st:=by
  unfold zK zm;rw[Int.toNat_natCast,hx,Option.getD_some,if_pos ⟨by omega,by omega,by omega,by omega⟩,Int.toNat_natCast,hi]
 rw[e];have hxm:=hm.method (List.mem_of_getElem? hx);have him:=List.mem_of_getElem? hi;have hin:jb op a b=true:=hxm.fits.ct _ him;have hna:zQ m x op a b=true:=hxm.co _ him;by_cases n18:op=18
 ·exact qqp m x F P op a b st A cap h w H hm hx hin hna hi hst hs (zH n18)
 by_cases n19:op=19
 ·exact qqn m x F P op a b st A cap h w H hm hx hin hna hi hst hs (zH n19)
 by_cases n33:op=33
 ·exact qqo m x F P op a b st A cap h w H hm hx hin hna hi hst hs (zH n33)
 by_cases n6:op=6
 ·exact qqq m x F P op a b st A cap h w H hm hx hin hna hi hst hs (zH n6)
 exact qqr m x F P op a b st A cap h w H hm hx hin hna hi hst hs n18 n19 n33 n6
theorem qkl(m:za)(f pc:Int)(st:List (Int×Int))(A:Option Addr)(cap:Nat)(h:zl)(w:World)(H:zp w w.heap.size h m)(hm:zP m)(hst:zd zi 2 w w.heap.size A cap st)(hs:st.length≤4000):
  Calls Tryz.prog 16 #[zr h m,.int .i64 f,.int .i64 pc,.slice A st.length cap] w (q6p (zK m f pc st) w):=(q4n m f pc st A cap h w H hm hst hs).mono fun _ _ q=>q.is
theorem js{α:Type}{At:qI α}(hK:vF At){k:Nat}{w w':World}{A:Option Addr}{c:Nat}{l:List α}(h:zd At k w w.heap.size A c l)(hb:Below w.heap.size w w'):zd At k w' w'.heap.size A c l:=
 (h.below_to hK hb (zn _)).keep' hK hb.size (fun _ _=>rfl)
theorem q5l{m:za}{h:zl}{f pc:Int}{st L:List (Int×Int)}{NL:List Int}{er:Int}{A:Option Addr}{cap n:Nat}{w0 w:World}(HI:Hid (zp w0 w0.heap.size h m))(HX:Hid (Below w0.heap.size w0 w))(HM:Hid (zP m))(HN:Hid (st.length=n))(HS:Hid (zd zi 2 w w.heap.size A cap st))(hs:n≤4000)(HR:Hid (zK m f pc st=⟨L,NL,er⟩)):
  Calls Tryz.prog 16 #[zr h m,.int .i64 f,.int .i64 pc,.slice A n cap] w fun e w'=>∃A c A' c',e= .returned (.tuple #[.slice A L.length c,.slice A' NL.length c',.int .i64 er])∧zd zi 2 w' w'.heap.size A c L∧zd zo 1 w' w'.heap.size A' c' NL∧Below w.heap.size w w':=by
 obtain rfl:=HN.out;have H:=qkl m f pc st A cap h w (HI.out.now HX.out) HM.out HS.out hs;rw[HR.out]at H;exact H
theorem q34{α:Type}{At:qI α}(hK:vF At){k:Nat}{w:World}{A:Option Addr}{c:Nat}{l:List α}(h:zd At k w w.heap.size A c l):zd At k w.drew w.drew.heap.size A c l:=h.keep' hK (zn _) (fun _ _=>rfl)
theorem qat{w:World}{B:Nat}{h:zl}{m:za}(H:zp w B h m){G:Nat}(hG:G<m.methods.length):∃ad A4 j4,h.A3=some ad∧ad.block<B∧w.cell? (zc (ad.add (G*8)) 4)=some (.slice A4 m.methods[G].code.length j4):=by
 obtain⟨ad,hn,e0,hb,hmi,hmc⟩:=jB H hG;exact⟨ad,hn.A4,hn.k4,e0,hb,hmc.c4⟩
theorem Jw{m:za}{x:ze}{F P:Nat}{op a b:Int}{st:List (Int×Int)}(hx:m.methods[F]? =some x)(hi:x.code[P]? =some (op,a,b)):zK m F P st=qr m x P op a b st:=by
 have hF:=(List.getElem?_eq_some_iff.mp hx).1;have hP:=(List.getElem?_eq_some_iff.mp hi).1;unfold zK zm;rw[Int.toNat_natCast,hx,Option.getD_some,if_pos ⟨by omega,by omega,by omega,by omega⟩,Int.toNat_natCast,hi]
theorem qo8{m:za}{f pc:Int}{S:List zu}(hs:(zv S pc).seen=false):ZQ m f S pc=true:=by unfold ZQ;rw[hs];rfl
def ZR(m:za)(f q:Int):List Int:=match(zm m f).code[q.toNat]? with
 |some i=>qE q i.1 i.2.1
 |none=> []
theorem qaj{m:za}{x:ze}{F P:Nat}{op a b:Int}(hx:m.methods[F]? =some x)(hi:x.code[P]? =some (op,a,b)):ZR m F P=qE P op a:=by
 unfold ZR zm;rw[Int.toNat_natCast,hx,Option.getD_some,Int.toNat_natCast,hi]
theorem q7w{m:za}{x:ze}{pc op a b:Int}{st:List (Int×Int)}(he:(qr m x pc op a b st).err=0):(qr m x pc op a b st).next=qE pc op a∧(qr m x pc op a b st).after.length≤8:=by
 have e4:¬(qL 4).err=0:=by unfold qL;decide
 unfold qr at he⊢
 by_cases h1:(qE pc op a).head?.any (fun n=>decide ((x.code.length:Int)≤n))=true
 ·rw[if_pos h1]at he;exact absurd he e4
 rw[if_neg h1]at he⊢
 by_cases h2:(op=6∧st=[])∨st.length<(qO m x op a b st).length∨8<st.length - (qO m x op a b st).length+(ju m x op a b st).length
 ·rw[if_pos h2]at he;exact absurd he e4
 rw[if_neg h2]at he⊢
 by_cases h3:((st.drop (st.length - (qO m x op a b st).length)).zip (qO m x op a b st)).all (fun p=>qk (zw m.classes) op p.1 p.2)=true
 ·rw[if_pos h3];refine⟨rfl,?_⟩;have:¬8<st.length - (qO m x op a b st).length+(ju m x op a b st).length:=fun q=>h2 (.inr (.inr q));show(List.take _ st++_).length≤8;rw[List.length_append,List.length_take];omega
 ·rw[if_neg h3]at he;exact absurd he e4
def q01(m:za)(f:Int)(S:List zu)(pc:Nat):Prop:=(zv S pc).seen=true→(zK m f pc (zv S pc).stack).err=0∧∀n ∈(zK m f pc (zv S pc).stack).next,(zv S n).seen=true∧(zK m f pc (zv S pc).stack).after.length=(zv S n).stack.length
structure Qc(m:za)(f:Int)(S:List zu):Prop where
 len:S.length=(zm m f).code.length
 first:(zv S 0).seen=true
 pred:∀i:Nat,i<S.length→i≠0→(zv S i).seen=true→∃q:Nat,q<S.length∧q≠i∧(zv S q).seen=true∧(i:Int) ∈ZR m f q
 small:∀s ∈S,s.stack.length≤8
structure jF(m:za)(f:Int)(S:List zu):Prop where
 grow:Qc m f S
 done:∀pc,pc<S.length→q01 m f S pc
theorem Ym{S:List zu}{q i:Nat}{s:zu}(hq:q<S.length):zv (S.set q s) (i:Int)=if i=q then s else zv S (i:Int):=by
 unfold zv;rw[Int.toNat_natCast,List.getElem?_set];by_cases h:q=i
 ·subst h;rw[if_pos rfl,if_pos rfl,if_pos hq];rfl
 ·rw[if_neg h,if_neg (fun e=>h e.symm)]
theorem Qc.put{m:za}{f:Int}{S:List zu}(h:Qc m f S){p q:Nat}{L:List (Int×Int)}(hq:q<S.length)(hp:p<S.length)(hs:(zv S p).seen=true)(hn:(q:Int) ∈ZR m f p)(hL:L.length≤8):Qc m f (S.set q ⟨true,L⟩):=by
 have hset:∀i:Nat,zv (S.set q ⟨true,L⟩) (i:Int)=if i=q then⟨true,L⟩else zv S (i:Int):=fun i=>Ym hq
 have hkeep:∀i:Nat,(zv S i).seen=true→(zv (S.set q ⟨true,L⟩) (i:Int)).seen=true:=fun i hi=>by
  rw[hset];by_cases e:i=q
  ·rw[if_pos e]
  ·rw[if_neg e];exact hi
 refine⟨by rw[List.length_set];exact h.len,hkeep 0 h.first,fun i hi h0 hsi=> ?_,fun s hs'=> ?_⟩
 ·rw[List.length_set]at hi;rw[List.length_set];by_cases e:(zv S i).seen=true
  ·obtain⟨r,r1,r2,r3,r4⟩:=h.pred i hi h0 e;exact⟨r,r1,r2,hkeep r r3,r4⟩
  ·have hiq:i=q:=by
    rw[hset]at hsi;by_cases e2:i=q
    ·exact e2
    ·rw[if_neg e2]at hsi;exact absurd hsi e
   subst hiq;exact⟨p,hp,fun e2=>e (by rw[←e2];exact hs),hkeep p hs,hn⟩
 ·rcases List.mem_or_eq_of_mem_set hs' with g|g
  ·exact h.small s g
  ·rw[g];exact hL
theorem q09{X:List zy}{i:Nat}(hi:i<X.length):zv (X.map zy.shp) (i:Int)=X[i].shp:=by
 rw[QC (by rw[List.length_map];exact hi),List.getElem_map]
def q5c(m:za)(f:Int)(w:World)(e:Ending)(w':World):Prop:=∃ok A c S,e= .returned (.tuple #[.slice A (S:List zu).length c,.bool ok])∧Below w.heap.size w w'∧
 (ok=true→∃g X,A=some ⟨g,0,none⟩∧S=X.map zy.shp∧c=S.length∧w.heap.size≤g∧qx w' g X∧jF m f S)
theorem q1c{m:za}{f:Int}{w w':World}(hb:Below w.heap.size w w'):q5c m f w (.returned (.tuple #[.slice none 0 0,.bool false])) w':=⟨false,none,0,[],rfl,hb,fun h=>by cases h⟩
end Go.Proofs.YtdbfllajopcccaaGreat
