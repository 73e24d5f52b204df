import Derived.Test.YtnfeiginmngknaaGreatFZ26
namespace Go.Proofs.YtnfeiginmngknaaGreat
set_option maxRecDepth 100000
set_option linter.unusedVariables false
set_option linter.unusedSimpArgs false
open Go.ChangeShapes Go.WideShapes Go.ChangeAt Go.RowKit
theorem qjs{st:List (Int×Int)}{n:Nat}(h:n<st.length)(e:st.length=n+1):st.getLast?.getD (0,0)=st[n]:=by
 rw[List.getLast?_eq_getElem?,e,Nat.add_sub_cancel,Xc h];rfl
theorem Ps{P:Prop}(h:P:=by
 go_wp2_with(first|(go_at_call 97;(with_reducible refine(q0n HZR).mono ?_);rintro e w' ⟨rfl,hb⟩;have HX:=zi HX hb;have Yg:=zi Yg hb;have VW:=(ak.out.keep hb dx.out) 0 _ rfl;have j0:=(VS.out.keep Yg.out JF.out) 0 _ rfl;clear hb))
 go_ret3
 rw[E2.out];exact gK 4 (HW2.out.trans ((zD HY HX).mono HW2.out.size))):P:=h
theorem Pq{P:Prop}(h:P:=by
 go_wp2_with(first|(go_at_call 97;(with_reducible refine(q0n HZR).mono ?_);rintro e w' ⟨rfl,hb⟩;have HX:=zi HX hb;have Yg:=zi Yg hb;have VW:=(ak.out.keep hb dx.out) 0 _ rfl;have j0:=(VS.out.keep Yg.out JF.out) 0 _ rfl;clear hb))
 go_roundw;case rel=>exact⟨k+1,by omega,by go_num,HR2,HX⟩
 case measure=>simp[intOf];omega):P:=h
theorem qh9{w:World}{B c n:Nat}{A:Option Addr}{l:List Int}(h:zw w B A (l.map (Value.int .i64)))(h1:l.length<=c)(h2:c<=9223372036854775807):zd zu 1 w B A c l:=
 ⟨h1,h2,fun i x hi=>by
  obtain⟨ad,e,hb,hc⟩:=h i (.int .i64 x) (by rw[XF,hi];rfl);exact⟨ad,e,hb,by rw[Xq];exact hc⟩⟩
theorem qgt(pc op a:Int):(if op=33 then []else if op=19 then [if op=18 then a else pc,a]else [if op=18 then a else pc])=jt (pc - 1) op a:=by
 unfold jt;by_cases h:op=18
 ·subst h;rfl
 ·rw[Xa h,Xa h];by_cases g:op=19
  ·subst g;simp
  ·simp[g]
def ovrB(n:Nat)(L:List Int):Bool:=L.head?.any fun t=>decide ((n:Int)<=t)
theorem qj3{m:za}{x:zl}{pc op a b:Int}{st:List (Int×Int)}(h:ovrB x.code.length (jt pc op a)=true):qT m x pc op a b st=qS 4:=by
 unfold qT;exact Xb h
set_option maxHeartbeats 25600000 in
theorem qg5(m:za)(x:zl)(f pc:Nat)(op a b:Int)(st:List (Int×Int))(A:Option Addr)(cap:Nat)(h:zh)(w:World)(H:zr w w.heap.size h m)(hm:zP m)
  (hg:m.methods[f]? =some x) (hi:qs op a b=true) (hn:zK m x op a b=true) (hpc:x.code[pc]? =some (op,a,b)) (hst:zd zf 2 w w.heap.size A cap st) (hs:st.length<=4000):
  Calls Tryz.prog 54 #[zv h m,.int .i64 f,.int .i64 pc,.slice A st.length cap] w (ik (qT m x pc op a b st) w):=by
 have hk:f<m.methods.length:=(Xv.mp hg).1;have hx:m.methods[f]=x:=(Xv.mp hg).2;have hpl:pc<x.code.length:=(Xv.mp hpc).1;have hpi:x.code[pc]=(op,a,b):=(Xv.mp hpc).2;have hle:=H.methods.le;have hcap:=H.methods.cap;have slen:=hst.le;have scap:=hst.cap;have wX:=zH (fun W hW=>qg4 m x f op a b h W hW hm hg hi hn);obtain⟨o0,o1,a0,a1,b0,b1⟩:=YN hi;have HW:=zH ((zk (w:=w) (o:=(ze h m))));have zO:=zH (H.now HW.out);have HBX:=zH (qd w h m);have HZ:Hid (w.heap.size<(w.alloc (ze h m)).heap.size):=zH (by simp);have HST:=zH ((hst.below_to zf.keeps HW.out (zn _)).keep' zf.keeps HW.out.size (fun _ _=>rfl));have Qe:Hid (m.classes.length<=1000):=zH (by have:=hm.fits.cl;omega);have HCO:Hid (x.code.length<=1048576):=zH (by have:=(hm.method (Xr hg)).fits.cl;omega);clear H hg hi hn hst hm hpc;go_enter Tryz.func54,Tryz.ntmps54;go_upto_region 1 with fail
 generalize w.alloc (ze h m)=w1 at*
 obtain⟨q0,q1,q2,q3,q4,q5,q6⟩:=HBX.out;obtain⟨ad,hx',eA,hab,hin,hc⟩:=Zx zO.out hk;rw[hx]at hin hc;have GN:=hin.code.cap;have FU:=hin.code.le;have hco:=HCO.out;obtain⟨ac,eC,hac,i0,i1,i2⟩:=hin.code.row.at_ hpl;rw[hpi]at i0 i1 i2;dsimp only at i0 i1 i2;have Vi:=zH hc;have qY:=zH (show(ad.add (f*8)).block<w1.heap.size by rw[zC];exact hab);have c4:=hc.c4;have HEA:=zH eA;have Nc:=zH eC;rw[eA]at q3;rw[eC]at c4;clear hin hc eA eC hab;have g0:¬(f:Int)<0:=by omega
 have g1:¬(m.methods.length:Int)<=f:=by omega
 have g2:¬(pc:Int)<0:=by omega
 have g3:¬(x.code.length:Int)<=pc:=by omega
 have hw1:IntKind.i64.wrap ((pc:Int)+1)=(pc:Int)+1:=IntWalk.i64_in _ (by omega);go_upto_region 4 with fail
 have VS:=zH (qr w1 [.int .i64 op,.int .i64 a,.int .i64 b] 50);have HX:=zH (zk (w:=w1) (o:=(.cells #[.int .i64 op,.int .i64 a,.int .i64 b] 50)));have HZ2:Hid (w1.heap.size<(w1.alloc (.cells #[.int .i64 op,.int .i64 a,.int .i64 b] 50)).heap.size):=zH (by simp);clear q0 q1 q2 q3 q4 q5 q6 c4 i0 i1 i2;change Code.wp _ _ _ _ (w1.alloc (.cells [Value.int .i64 op,.int .i64 a,.int .i64 b].toArray 50));generalize w1.alloc (.cells [Value.int .i64 op,.int .i64 a,.int .i64 b].toArray 50)=w2 at*
 have hs2:=HX.out.size;have HW2:=zH (zD HW HX);have yG:=zH (HBX.out.keep HX.out HZ.out);have xZ:Hid (w.heap.size<w2.heap.size):=zH (Xp HZ.out hs2);have OJ:=zH (zO.out.now HX.out);have FE:=zH ((HST.out.below_to zf.keeps HX.out (zn _)).keep' zf.keeps HX.out.size (fun _ _=>rfl));have qmc:=zH (Vi.out.keep HX.out qY.out);have qkv:Hid ((ad.add (f*8)).block<w2.heap.size):=zH (Xp qY.out hs2);have JF:Hid (w1.heap.size<w2.heap.size):=zH HZ2.out;clear HBX zO HST Vi qY HZ hs2;go_upto_region 5 with fail
 have HOW:=zH (U4 w2 (.int .i64 ((pc:Int)+1)) 3);have HY:=zH ((zb w2.heap.size w2).alloc (zn _) (.cells #[.int .i64 ((pc:Int)+1)] 3));change Code.wp _ _ _ _ (w2.alloc (.cells [Value.int .i64 ((pc:Int)+1)].toArray 3));change Hid (World.ownsRow (w2.alloc (.cells [Value.int .i64 ((pc:Int)+1)].toArray 3)) _ _ _ _ _ _)at HOW;generalize w2.alloc (.cells [Value.int .i64 ((pc:Int)+1)].toArray 3)=w3 at*
 obtain⟨i0,hi,hz0,hz1,hz2⟩:=jJ ZL;obtain⟨j0,j1,j2⟩:=qv (VS.out.keep HY.out JF.out);clear g0 g1 g2 g3;go_upto_if 58 with fail
 obtain⟨v1,hv1⟩:∃v,(if op=18 then a else(pc:Int)+1)=v:=⟨_,rfl⟩
 have fT:=zH hv1;clear hv1;go_cut [12] (fun s wx=>Hid (wx.ownsRow w2.heap.size 3 1 s 1 [.int .i64 v1])/\Hid (Below w2.heap.size w2 wx))
 case first=>
  by_cases h18:op=18
  ·have b18:(op==18)=true:=XX.mpr h18;have dC:Hid (a=v1):=zH (by rw[<-fT.out,Xb h18]);clear h18;go_wp2_with fail
   go_meet
   exact⟨zH (by rw[<-dC.out];exact js (U4 w3 (.int .i64 a) 3) HY.out.size),zH (HY.out.alloc HY.out.size _)⟩
  ·have b18:(op==18)=false:=XG.mpr h18;have dC:Hid ((pc:Int)+1=v1):=zH (by rw[<-fT.out,Xa h18]);clear h18;go_wp2_with fail
   go_meet
   exact⟨zH (by rw[<-dC.out];exact HOW.out),HY⟩
 case rest=>
 as_aux_lemma=>
 obtain⟨HO4,bu⟩:=hcut;clear j0 j1 j2 HOW HY;generalize wc=w4 at*
 obtain⟨j0,j1,j2⟩:=qv (VS.out.keep bu.out JF.out);go_upto_if 64 with fail
 obtain⟨L2,hL2⟩:∃L,(if op=19 then [v1,a]else [v1])=L:=⟨_,rfl⟩
 have HL2:=zH hL2;clear hL2;go_cut [12] (fun s wx=>Hid (wx.ownsRow w2.heap.size 3 1 s L2.length (L2.map (Value.int .i64)))/\Hid (Below w2.heap.size w2 wx))
 case first=>
  have hsz:=bu.out.size;by_cases h19:op=19
  ·have b19:(op==19)=true:=XX.mpr h19;have dC:Hid ([v1,a]=L2):=zH (by rw[<-HL2.out,Xb h19]);clear h19;go_wp2_with(at_builtin;refine Zv rfl _ _ 27 rfl w2.heap.size 3 i0 (.int .i64 0) 1 8 Tryz.underlying27 hi hz0 hz1 hz2 rfl (by decide) _ 1 [.int .i64 v1] rfl (HO4.out.alloc _) (some ⟨w4.heap.size,0,none⟩) 1 1 _ [.int .i64 a] rfl rfl (gZ w4 _ _) (bL rfl) (by unfold maxLen;omega) (by omega) (by simp;omega) ?_;intro v6 w6 hown hgrow;have HO6:=zH hown;have fM:=zH (jx (bu.out.alloc hsz _) (HO4.out.alloc _) (by simp;omega) hgrow);clear hown hgrow)
   go_meet
   exact⟨zH (by rw[<-dC.out];exact HO6.out),fM⟩
  ·have b19:(op==19)=false:=XG.mpr h19;have dC:Hid ([v1]=L2):=zH (by rw[<-HL2.out,Xa h19]);clear h19;go_wp2_with fail
   go_meet
   exact⟨zH (by rw[<-dC.out];exact HO4.out),bu⟩
 case rest=>
 as_aux_lemma=>
 obtain⟨Vk,fZ⟩:=hcut;clear j0 j1 j2 HO4 bu;generalize wc=w5 at*
 obtain⟨j0,j1,j2⟩:=qv (VS.out.keep fZ.out JF.out);go_upto_if 72 with fail
 obtain⟨nl,hnl⟩:∃L,jt pc op a=L:=⟨_,rfl⟩
 have jc:Hid ((if op=33 then []else L2)=nl):=zH (by
  rw[<-hnl,<-HL2.out,<-fT.out,qgt,Int.add_sub_cancel])
 have Vo:=zH hnl;clear hnl HL2 fT;go_cut [12] (fun s wx=>Hid (wx.ownsRow w2.heap.size 3 1 s nl.length (nl.map (Value.int .i64)))/\Hid (Below w2.heap.size w2 wx))
 case first=>
  by_cases JB:op=33
  ·have b33:(op==33)=true:=XX.mpr JB;have dC:Hid ([]=nl):=zH (by rw[<-jc.out,Xb JB]);clear JB;go_wp2_with fail
   go_meet
   exact⟨zH (by rw[<-dC.out];exact js (bJ w5 3 1) fZ.out.size),zH (fZ.out.alloc fZ.out.size _)⟩
  ·have b33:(op==33)=false:=XG.mpr JB;have dC:Hid (L2=nl):=zH (by rw[<-jc.out,Xa JB]);clear JB;go_wp2_with fail
   go_meet
   exact⟨zH (by rw[<-dC.out];exact Vk.out),fZ⟩
 case rest=>
 as_aux_lemma=>
 obtain⟨HO6,fM⟩:=hcut;clear j0 j1 j2 Vk fZ jc;generalize wc=w6 at*
 obtain⟨An,cn,rfl,hln,hn1,hn2⟩:=Ji HO6.out;have fU:Hid (∀ad,An=some ad->w.heap.size<=ad.block):=zH (fun ad e=>by
  have:=(HO6.out.lt ad.block (by rw[e];rfl)).1;exact Xe HW2.out.size this)
 have qO:=zH (qh9 (n:=0) hln hn1 hn2);clear hln HO6;obtain⟨kn,hkn⟩:∃z,nl.length=z:=⟨_,rfl⟩
 have wY:=zH hkn;rw[hkn]at hn1⊢
 clear hkn;obtain⟨q0,q1,q2,q3,q4,q5,q6⟩:=yG.out.keep fM.out xZ.out;rw[HEA.out]at q3;have c4:=(qmc.out.keep fM.out qkv.out).c4;rw[Nc.out]at c4;obtain⟨j0,j1,j2⟩:=qv (VS.out.keep fM.out JF.out);have g0:¬(f:Int)<0:=by omega
 have g1:¬(m.methods.length:Int)<=f:=by omega
 go_upto_region 11 with fail
 obtain⟨ov,hov⟩:∃b,ovrB x.code.length nl=b:=⟨_,rfl⟩
 have VX:=zH hov;clear hov;go_cut [89] (fun s wx=>s= .bool ov/\Hid (Below w6.heap.size w6 wx))
 case first=>
  rcases nl with _|⟨t,r⟩
  ·have hk0:kn=0:=wY.out.symm;subst hk0;have xe:Hid (ov=false):=zH VX.out.symm;refine wp_region_noPanic ?_;refine wp_region_held_drew (S:=(fun w'=>w'.cell? ⟨w.heap.size,3,none⟩=some (.slice (some ad) m.methods.length h.c3))) (by kernel_rfl) q3 (fun hHeld=> ?_);refine mT 0 (h:=mT 1 (h:=mT 2 (h:=mT 3 (h:=mU 4 (h:=mU 5 (h:=mU 6 (h:=mU 7 (h:= ?_))))))));refine mU 8 (h:=mU 9 (h:=mU 10 (h:=mU 11 (h:=mU 12 (h:=mU 13 (h:=mU 14 (h:=mT 15 (h:= ?_))))))));refine wpAnyH_done (by kernel_rfl) ?_ _;refine NoPanic.normal ?_;go_wp2_with fail
   go_meet
   exact⟨by rw[xe.out],zH (zb _ _).drew⟩
  ·obtain⟨Gs,rfl,habn,n0⟩:=qO.out.row.at_ (i:=0) (by simp);have n0:w6.cell? Gs=some (.int .i64 t):=by
    have:=n0;rw[Xq,show Gs.add 0=Gs by simp[Addr.add]]at this;exact this
   have hkq:0<kn:=by have h1:r.length+1=kn:=wY.out;omega
   have hkp:(0:Int)<(kn:Int):=by omega
   have xe:Hid (decide ((x.code.length:Int)<=t)=ov):=zH VX.out;go_region_held3 (fun w'=>w'.cell? ⟨w.heap.size,3,none⟩=some (.slice (some ad) m.methods.length h.c3)/\w'.cell? ⟨(ad.add (f*8)).block,(ad.add (f*8)).off+4,none⟩=some (.slice (some ac) x.code.length hx'.k4)/\w'.cell? Gs=some (.int .i64 t)) (first|exact⟨q3,c4,n0⟩) (first|fail)
   all_goals
    go_wp2_with fail
    go_meet
    exact⟨by rw[<-xe.out],zH (zb _ _).drew⟩
 case rest=>
 as_aux_lemma=>
 obtain⟨rfl,FX⟩:=hcut;have qO:=zH (qO.out.keep' zu.keeps FX.out.size (fun _ hq=>FX.out.cell hq));have HY:=zi fM FX.out;clear q0 q1 q2 q3 q4 q5 q6 c4 j0 j1 j2 fM FX g0 g1;generalize wc=w7 at*
 obtain⟨q0,q1,q2,q3,q4,q5,q6⟩:=yG.out.keep HY.out xZ.out;obtain⟨j0,j1,j2⟩:=qv (VS.out.keep HY.out JF.out);cases ov;rotate_left
 ·have E2:=zH (qj3 (m:=m) (x:=x) (b:=b) (st:=st) (pc:=(pc:Int)) (op:=op) (a:=a) (by rw[Vo.out];exact VX.out));go_wp2_with fail
  go_ret3
  rw[E2.out];exact gK 4 (zD HW2 HY)
 obtain⟨TK0,xL⟩:∃TK,jq m x op a b=TK:=⟨_,rfl⟩
 obtain⟨GV0,oK⟩:∃GV,jg m x op a b=GV:=⟨_,rfl⟩
 obtain⟨TK,Mo⟩:=zj (takes m x op a b st);obtain⟨GV,Gb⟩:=zj (Jv m x op a b st);have dV:Hid (GV.length<=2):=zH (by
  rw[<-Gb];unfold Jv;split
  ·exact zn _
  ·exact R9 m x op a b)
 have E0:Hid (¬(op=6/\st=[])->qT m x pc op a b st=ZK (zy m.classes) op TK GV nl st):=zH (fun h6=>by
  have:=y7 (m:=m) (x:=x) (b:=b) (st:=st) (pc:=(pc:Int)) (op:=op) (a:=a) (by rw[Vo.out];exact X6.mp VX.out) h6;rw[Mo,Gb,Vo.out]at this;exact this)
 have E6:Hid (op=6/\st=[]->qT m x pc op a b st=qS 4):=zH (fun h6=>by rw[h6.1,h6.2];exact Km);have HTK:Hid (TK=if op=6/\st≠ []then [(0,0)]else TK0):=zH (by rw[<-Mo,<-xL];rfl);have lh:Hid (GV=if op=6/\st≠ []then [st.getLast?.getD (0,0),st.getLast?.getD (0,0)]else GV0):=zH (by rw[<-Gb,<-oK];rfl);rw[xL,oK]at wX;clear xL oK Mo Gb VX Vo;go_upto_region 14 with(go_at_call 96;(with_reducible refine(wX.out _ (OJ.out.now HY.out)).mono ?_);rintro e w5 ⟨At,ct,Ag,cg,rfl,hT,hG,hb⟩;have HT:=zH hT;have HG:=zH hG;have qO:=zH (qO.out.keep' zu.keeps hb.size (fun _ hq=>hb.cell hq));have HY:=zi HY hb;clear hT hG hb;clear q0 q1 q2 q3 q4 q5 q6 j0 j1 j2;obtain⟨j0,j1,j2⟩:=qv (VS.out.keep HY.out JF.out))
 obtain⟨db,hdb⟩:∃z,decide (op=6/\st≠ [])=z:=⟨_,rfl⟩
 have BP:=zH hdb;clear hdb;go_upto_region 14 with fail
 go_cut [104] (fun s wx=>s= .bool db/\Hid (Below w5.heap.size w5 wx))
 case first=>
  by_cases h6:op=6
  ·have b6:(op==6)=true:=XX.mpr h6;have HB:Hid (decide (0<st.length)=db):=zH (by
    rw[<-BP.out,Wj];exact⟨fun q=>⟨h6,fun e=>by rw[e]at q;cases q⟩,fun q=>List.length_pos_iff.mpr q.2⟩)
   clear h6;go_wp2_with fail
   go_meet
   exact⟨by rw[<-HB.out],zH (zb _ _)⟩
  ·have b6:(op==6)=false:=XG.mpr h6;have HB:Hid (db=false):=zH (by rw[<-BP.out];exact Xf (fun q=>h6 q.1));clear h6;go_wp2_with fail
   go_meet
   exact⟨by rw[HB.out],zH (zb _ _)⟩
 case rest=>
 as_aux_lemma=>
 obtain⟨rfl,HX6⟩:=hcut;have qO:=zH (qO.out.keep' zu.keeps HX6.out.size (fun _ hq=>HX6.out.cell hq));have HT:=zH (HT.out.keep' zf.keeps HX6.out.size (fun _ hq=>HX6.out.cell hq));have HG:=zH (HG.out.keep' zf.keeps HX6.out.size (fun _ hq=>HX6.out.cell hq));have HY:=zi HY HX6.out;clear HX6 j0 j1 j2;generalize wc=w5 at*
 go_upto_if 104 with fail
 go_cut [13,14] (fun s13 s14 wx=>∃At ct Ag cg,s13= .slice At TK.length ct/\s14= .slice Ag GV.length cg/\Hid (zd zf 2 wx wx.heap.size At ct TK)/\Hid (zd zf 2 wx wx.heap.size Ag cg GV)/\Hid (Below w5.heap.size w5 wx))
 case first=>
  cases db
  ·have NF:¬(op=6/\st≠ []):=Wi BP.out;have HA:Hid (TK=TK0):=zH (by rw[HTK.out,Xa NF]);have HB:Hid (GV=GV0):=zH (by rw[lh.out,Xa NF]);clear NF;go_wp2_with fail
   go_meet
   exact⟨_,_,_,_,by rw[HA.out],by rw[HB.out],zH (by rw[HA.out];exact HT.out),zH (by rw[HB.out];exact HG.out),zH (zb _ _)⟩
  ·obtain⟨h6,yj⟩:=XD BP.out;have hpos:0<st.length:=List.length_pos_iff.mpr yj;obtain⟨n,hn⟩:∃n,st.length=n+1:=⟨st.length - 1,by omega⟩
   have NK:n<st.length:=by omega
   have hgt:(0:Int)<(st.length:Int):=by omega
   have hw5:IntKind.i64.wrap ((st.length:Int) - 1)=(n:Int):=by rw[IntWalk.i64_in _ (by omega)];omega
   obtain⟨t,ht⟩:=zj (st[n]);have kA:=zH ht;have HA:Hid (TK=[(0,0)]):=zH (by rw[HTK.out,Xb ⟨h6,yj⟩]);have HB:Hid (GV=[t,t]):=zH (by rw[lh.out,Xb ⟨h6,yj⟩,qjs NK hn,ht]);clear ht h6 yj hn HT HG;obtain⟨t0,t1⟩:=t;obtain⟨dN,rfl,hb1,s0,s1⟩:=FE.out.row.at_ NK;rw[kA.out]at s0 s1;dsimp only at s0 s1;have p0:=(HY.out.cell (p:=dN.add (n*2)) (by exact zZ hb1)).trans s0;have p1:=(HY.out.cell (p:=zc (dN.add (n*2)) 1) (by show(dN.add (n*2)).block<_;rw[zC];exact hb1)).trans s1;clear s0 s1 hb1;go_upto_region 16 with fail
   have VW:=(qr w5 [.int .i64 t0,.int .i64 t1] 45) 0 _ rfl;have gu:=(qr w5 [.int .i64 t0,.int .i64 t1] 45) 1 _ rfl;have dW:=zH (zk (w:=w5) (o:=(.cells #[.int .i64 t0,.int .i64 t1] 45)));change Code.wp _ _ _ _ (w5.alloc (.cells [Value.int .i64 t0,.int .i64 t1].toArray 45));obtain⟨g5,hg5⟩:∃z,w5.heap.size=z:=⟨_,rfl⟩
   simp only[hg5]at VW gu⊢
   have Gc:=zH hg5;clear hg5;generalize w5.alloc (.cells [Value.int .i64 t0,.int .i64 t1].toArray 45)=w6b at*
   have e1:=World.new_ne w6b _ VW;go_region_held3 (fun w'=>w'.cell? ⟨g5,0,none⟩=some (.int .i64 t0)/\w'.cell? ⟨g5,1,none⟩=some (.int .i64 t1)) (go_keep) (first|fail)
   all_goals
    go_wp2_with fail
    go_meet
    refine⟨_,_,_,_,by rw[HA.out];rfl,by rw[HB.out];rfl,zH ?_,zH ?_,zH ?_⟩
    ·rw[HA.out];exact JT (by simp<;>omega) (by go_simp) (by go_simp)
    ·rw[HB.out];exact LW (by simp<;>omega) (by go_simp) (by go_simp) (by go_simp) (by go_simp)
    ·exact dW.out.trans ((((zk (w:=w6b)).alloc (by simp) _).drew).mono dW.out.size)
 case rest=>
 as_aux_lemma=>
 obtain⟨At,ct,Ag,cg,rfl,rfl,HT,HG,HX6⟩:=hcut;have qO:=zH (qO.out.keep' zu.keeps HX6.out.size (fun _ hq=>HX6.out.cell hq));have HY:=zi HY HX6.out;clear HX6 HTK lh wX BP;generalize wc=w5 at*
 obtain⟨q0,q1,q2,q3,q4,q5,q6⟩:=yG.out.keep HY.out xZ.out;obtain⟨j0,j1,j2⟩:=qv (VS.out.keep HY.out JF.out);have htl:=HT.out.le;have htc:=HT.out.cap;have hgl:=dV.out;by_cases h6:op=6/\st=[]
 ·have E2:=zH (E6.out h6);have b6:(op==6)=true:=XX.mpr h6.1;have hs0:(st.length:Int)=0:=by rw[h6.2];rfl
  clear h6;go_wp2_with fail
  go_ret3
  rw[E2.out];exact gK 4 (zD HW2 HY)
 have E0:=zH (E0.out h6);obtain⟨bo,og⟩:∃z,(op==6)=z:=⟨_,rfl⟩
 have hne:bo=true->¬(st.length:Int)=0:=fun e q=>h6 ⟨XX.mp (og.trans e),List.length_eq_zero_iff.mp (by omega)⟩;clear h6;obtain⟨bad,hbad⟩:∃z,(decide (st.length<TK.length)||decide (8<st.length - TK.length+GV.length))=z:=⟨_,rfl⟩
 have HBAD:=zH hbad;have jc:=zH hne;clear hbad hne;go_upto_region 17 with fail
 go_cut [141] (fun s wx=>s= .bool bad/\Hid (Below w5.heap.size w5 wx))
 case first=>
  by_cases hs1:st.length<TK.length
  ·have HB:Hid (bad=true):=zH (by rw[<-HBAD.out,Xi hs1];rfl);cases bo
   ·go_wp2_with fail
    go_meet
    exact⟨by rw[HB.out],zH (zb _ _)⟩
   ·have hs0:=jc.out rfl;have GH:((st.length:Int)==0)=false:=XG.mpr hs0;have qm6:¬st.length=0:=by omega
    go_wp2_with fail
    go_meet
    exact⟨by rw[HB.out],zH (zb _ _)⟩
  have hw2:IntKind.i64.wrap ((st.length:Int) - (TK.length:Int))=((st.length - TK.length:Nat):Int):=by rw[IntWalk.i64_in _ (by omega)];omega
  obtain⟨d,hd⟩:=zj (st.length - TK.length);rw[hd]at hw2;have hw3:IntKind.i64.wrap ((d:Int)+(GV.length:Int))=(d:Int)+(GV.length:Int):=IntWalk.i64_in _ (by omega);have HB:Hid (decide ((8:Int)<(d:Int)+(GV.length:Int))=bad):=zH (by rw[<-HBAD.out,Xf hs1,Bool.false_or,hd,Wj];omega);clear hd;cases bo
  ·go_wp2_with fail
   go_meet
   exact⟨by rw[<-HB.out],zH (zb _ _)⟩
  ·have hs0:=jc.out rfl;have GH:((st.length:Int)==0)=false:=XG.mpr hs0;have qm6:¬st.length=0:=by omega
   go_wp2_with fail
   go_meet
   exact⟨by rw[<-HB.out],zH (zb _ _)⟩
 case rest=>
 as_aux_lemma=>
 obtain⟨rfl,HX6⟩:=hcut;have qO:=zH (qO.out.keep' zu.keeps HX6.out.size (fun _ hq=>HX6.out.cell hq));have HT:=zH (HT.out.keep' zf.keeps HX6.out.size (fun _ hq=>HX6.out.cell hq));have HG:=zH (HG.out.keep' zf.keeps HX6.out.size (fun _ hq=>HX6.out.cell hq));have HY:=zi HY HX6.out;clear q0 q1 q2 q3 q4 q5 q6 j0 j1 j2 HX6 jc og;generalize wc=w5 at*
 cases bad;rotate_left
 ·have E2:Hid (qT m x pc op a b st=qS 4):=zH (E0.out.trans (by
   unfold ZK;rw[Xb];have:=HBAD.out;rw[Wr,Xw,Xw]at this;exact this))
  go_wp2_with fail
  go_ret3
  rw[E2.out];exact gK 4 (zD HW2 HY)
 obtain⟨q0,q1,q2,q3,q4,q5,q6⟩:=yG.out.keep HY.out xZ.out;obtain⟨j0,j1,j2⟩:=qv (VS.out.keep HY.out JF.out);obtain⟨hs1,hs2⟩:¬st.length<TK.length/\¬8<st.length - TK.length+GV.length:=by
  have:=HBAD.out;rw[Bool.or_eq_false_iff,decide_eq_false_iff_not,decide_eq_false_iff_not]at this;exact this
 have hw2:IntKind.i64.wrap ((st.length:Int) - (TK.length:Int))=((st.length - TK.length:Nat):Int):=by rw[IntWalk.i64_in _ (by omega)];omega
 obtain⟨d,hd⟩:=zj (st.length - TK.length);rw[hd]at hw2 hs2;have E1:=zH (E0.out.trans (qj1 hd hs1 hs2));obtain⟨Z,hZ⟩:=zj ((st.drop d).zip TK);have FM:Z.length=TK.length:=by rw[<-hZ,List.length_zip,XK];omega
 have HZK:Hid (∀k (h1:d+k<st.length) (h2:k<TK.length) (h3:k<Z.length),Z[k]=(st[d+k],TK[k])):=zH (by subst hZ;intro k h1 h2 h3;simp);rw[hZ]at E1;have HZl:=zH FM;clear E0 hZ FM;have hdl:d+TK.length=st.length:=by omega
 have QW:d<=8:=by omega
 go_wp2_with fail
 go_loopw [17] (fun i wr=>∃k:Nat,k<=TK.length/\i= .int .i64 k/\Hid (∀p ∈Z.take k,vM (zy m.classes) op p.1 p.2=true)/\Hid (Below w5.heap.size w5 wr)) (fun i _=>TK.length - (intOf i).toNat)
 case atStart=>exact⟨0,by omega,rfl,zH (by simp),zH (zb _ _)⟩
 case round=>
  clear q0 q1 q2 q3 q4 q5 q6 j0 j1 j2;obtain⟨k,hk,rfl,HN,HX⟩:=hrel;by_cases hlt:k<TK.length
  ·have OD:k<Z.length:=by rw[HZl.out];exact hlt
   obtain⟨j,hj⟩:=zj (d+k);have hdk:j<st.length:=by omega
   have Ns:=HZK.out k (by omega) hlt OD;simp only[hj]at Ns;obtain⟨dN,rfl,hb1,s0,s1⟩:=FE.out.row.at_ hdk;obtain⟨Ye,rfl,hb2,v0,v1⟩:=HT.out.row.at_ hlt;have Yg:=zH (zD HY HX);have p0:=(Yg.out.cell (p:=dN.add (j*2)) (by exact zZ hb1)).trans s0;have p1:=(Yg.out.cell (p:=zc (dN.add (j*2)) 1) (by show(dN.add (j*2)).block<_;rw[zC];exact hb1)).trans s1;have r0:=(HX.out.cell (p:=Ye.add (k*2)) (by exact zZ hb2)).trans v0;have r1:=(HX.out.cell (p:=zc (Ye.add (k*2)) 1) (by show(Ye.add (k*2)).block<_;rw[zC];exact hb2)).trans v1;have qz:=zH (fun g:(fun p:(Int×Int)×(Int×Int)=>vM (zy m.classes) op p.1 p.2) Z[k]=false=>JP (f:=(fun p:(Int×Int)×(Int×Int)=>vM (zy m.classes) op p.1 p.2)) OD g);have HYE:=zH (fun g:(fun p:(Int×Int)×(Int×Int)=>vM (zy m.classes) op p.1 p.2) Z[k]=true=>Jk (f:=(fun p:(Int×Int)×(Int×Int)=>vM (zy m.classes) op p.1 p.2)) OD HN.out g);rw[Ns]at qz HYE;clear Ns;generalize st[j]=t at*
   generalize TK[k]=u at*
   obtain⟨t0,t1⟩:=t;obtain⟨u0,u1⟩:=u;dsimp only at p0 p1 r0 r1;have hw4:IntKind.i64.wrap ((d:Int)+(k:Int))=(j:Int):=by rw[IntWalk.i64_in _ (by omega)];omega
   clear s0 s1 v0 v1 hb1 hb2;go_upto_region 23 with fail
   go_cut [18,19] (fun s18 s19 wx=>∃g g':Nat,s18= .pointer (some ⟨g,0,none⟩)/\s19= .pointer (some ⟨g',0,none⟩)/\Hid (zQ wx g [.int .i64 t0,.int .i64 t1])/\Hid (zQ wx g' [.int .i64 u0,.int .i64 u1])/\Hid (Below wr.heap.size wr wx)/\Hid (g<wx.heap.size)/\Hid (g'<wx.heap.size))
   case first=>
    have e1:=World.new_ne wr _ p0;have e2:=World.new_ne wr _ r0;go_region_held3 (fun w'=>w'.cell? (dN.add (j*2))=some (.int .i64 t0)/\w'.cell? (zc (dN.add (j*2)) 1)=some (.int .i64 t1)/\w'.cell? (Ye.add (k*2))=some (.int .i64 u0)/\w'.cell? (zc (Ye.add (k*2)) 1)=some (.int .i64 u1)) (go_keep) (first|fail)
    all_goals
     go_wp2_with fail
     go_meet
     first
      |exact⟨_,_,rfl,rfl,zH (eu wr 45 [.int .i64 t0,.int .i64 t1] [.int .i64 u0,.int .i64 u1]).1,zH (eu wr 45 [.int .i64 t0,.int .i64 t1] [.int .i64 u0,.int .i64 u1]).2.1,zH (eu wr 45 [.int .i64 t0,.int .i64 t1] [.int .i64 u0,.int .i64 u1]).2.2.1,zH (eu wr 45 [.int .i64 t0,.int .i64 t1] [.int .i64 u0,.int .i64 u1]).2.2.2.1,zH (eu wr 45 [.int .i64 t0,.int .i64 t1] [.int .i64 u0,.int .i64 u1]).2.2.2.2⟩
      |exact⟨_,_,rfl,rfl,zH (eu wr 45 [.int .i64 u0,.int .i64 u1] [.int .i64 t0,.int .i64 t1]).2.1,zH (eu wr 45 [.int .i64 u0,.int .i64 u1] [.int .i64 t0,.int .i64 t1]).1,zH (eu wr 45 [.int .i64 u0,.int .i64 u1] [.int .i64 t0,.int .i64 t1]).2.2.1,zH (eu wr 45 [.int .i64 u0,.int .i64 u1] [.int .i64 t0,.int .i64 t1]).2.2.2.2,zH (eu wr 45 [.int .i64 u0,.int .i64 u1] [.int .i64 t0,.int .i64 t1]).2.2.2.1⟩
   case rest=>
    obtain⟨g,g',rfl,rfl,ak,dA,lw,dx,lv⟩:=hcut;have HX:=zH (zD HX lw);have Yg:=zH (zD Yg lw);have qK:=zH (zb wc.heap.size wc);clear lw p0 p1 r0 r1;have VW:=ak.out 0 _ rfl;have gu:=ak.out 1 _ rfl;have nZ:=dA.out 0 _ rfl;have oF:=dA.out 1 _ rfl;obtain⟨q0,q1,q2,q3,q4,q5,q6⟩:=yG.out.keep Yg.out xZ.out;have j0:=(VS.out.keep Yg.out JF.out) 0 _ rfl;by_cases hu0:u0=0
    ·subst hu0;have HR2:=zH (HYE.out qhx);go_wp2_with fail
     go_roundw;case rel=>exact⟨k+1,by omega,by go_num,HR2,HX⟩
     case measure=>simp[intOf];omega
    have bu0:(u0==0)=false:=XG.mpr hu0;obtain⟨r,hr⟩:=zj (vM (zy m.classes) op (t0,t1) (u0,u1));by_cases OB:u0=4
    ·subst OB;have HD:=zH (AO.symm.trans hr);obtain⟨z,hz⟩:=zj (kS t0);have HZR:=zH hz;cases z
     ·have E2:=zH (E1.out.trans (Xa (by rw[qz.out (AO.trans (by rw[hz];rfl))];decide)));clear hz hr HD;exact Ps
     ·by_cases sZ:op=34
      ·by_cases ht2:t0=2
       ·have E2:=zH (E1.out.trans (Xa (by rw[qz.out (AO.trans (by rw[sZ,ht2];rfl))];decide)));clear hz hr HD;have b34:(op==34)=true:=XX.mpr sZ;have bt2:(t0==2)=true:=XX.mpr ht2;clear sZ ht2;exact Ps
       ·have HR2:=zH (HYE.out (AO.trans (by rw[hz,Xf ht2,Bool.and_false];rfl)));clear hz hr HD;have b34:(op==34)=true:=XX.mpr sZ;have bt2:(t0==2)=false:=XG.mpr ht2;clear sZ;exact Pq
      ·have HR2:=zH (HYE.out (AO.trans (by rw[hz,Xf sZ,Bool.false_and];rfl)));clear hz hr HD;have b34:(op==34)=false:=XG.mpr sZ;exact Pq
    ·have bu4:(u0==4)=false:=XG.mpr OB;have HD:=zH ((qhw hu0 OB).symm.trans hr);cases r
     ·have E2:=zH (E1.out.trans (Xa (by rw[qz.out hr];decide)));clear hr;go_wp2_with(first|(go_at_call 91;(with_reducible refine(Rp OJ Yg Qe HD).mono ?_);rintro e w' ⟨rfl,hb⟩;have HX:=zi HX hb;clear hb))
      go_ret3
      rw[E2.out];exact gK 4 (HW2.out.trans ((zD HY HX).mono HW2.out.size))
     ·have HR2:=zH (HYE.out hr);clear hr;go_wp2_with(first|(go_at_call 91;(with_reducible refine(Rp OJ Yg Qe HD).mono ?_);rintro e w' ⟨rfl,hb⟩;have HX:=zi HX hb;clear hb))
      go_roundw;case rel=>exact⟨k+1,by omega,by go_num,HR2,HX⟩
      case measure=>simp[intOf];omega
  ·obtain rfl:k=TK.length:=by omega
   obtain⟨q0,q1,q2,q3,q4,q5,q6⟩:=yG.out.keep (zD HY HX) xZ.out;have E2:=zH (E1.out.trans (Xb (JQ HN.out (by rw[HZl.out];exact zn _))));obtain⟨i0,hi,hz0,hz1,hz2⟩:=jJ bM;have Yg:=zH (zD HY HX);have HB0:=zH (zk (w:=wr) (o:=(.cells #[] 45)));have nV:=zH (bJ wr 45 2);have HA:=zH (((YQ (FE.out.row.take_ d)).below_to (zD Yg HB0) (zn _)):zw (wr.alloc (.cells #[] 45)) w2.heap.size A (zN (st.take d)));have htd:(st.take d).length=d:=by rw[XW];omega
   have Gj:d<=cap:=by omega
   have HE:=zH E2.out;rcases A with _|ad0
   ·have yj:st.length=0:=Nat.eq_zero_of_not_pos fun q=>by obtain⟨_,e,_⟩:=FE.out.row.at_ q;exact absurd e (by simp)
    obtain rfl:st=[]:=Wp yj;obtain rfl:d=0:=by omega
    go_wp2_with(first
     |(at_builtin;refine Zv rfl _ _ 24 rfl wr.heap.size 45 i0 (.agg #[.int .i64 0,.int .i64 0]) 2 16 Tryz.underlying24 hi hz0 hz1 hz2 rfl (by decide) _ 0 [] rfl nV.out none 0 _ _ (zN (([]:List (Int×Int)).take 0)) rfl rfl HA.out (QM _) (by unfold maxLen;omega) (by omega) HB0.out.size ?_;intro v6 w6 Bo CR;have Zk:=zH (jx HB0.out nV.out HB0.out.size CR);have HO6:=zH Bo;have M5:=zH (((YQ HG.out.row).below_to (zD HX Zk) (zn _)):zw w6 w5.heap.size Ag (zN GV));clear Bo CR)
     |(at_builtin;refine Zv rfl _ _ 24 rfl wr.heap.size 45 i0 (.agg #[.int .i64 0,.int .i64 0]) 2 16 Tryz.underlying24 hi hz0 hz1 hz2 rfl (by decide) _ (0+0) ([]++zN (([]:List (Int×Int)).take 0)) rfl HO6.out Ag GV.length cg _ (zN GV) (Yt _) rfl M5.out (QM _) (by unfold maxLen;omega) (by omega) Zk.out.size ?_;intro v7 w7 Bq Da;have tC:=zH (jx Zk.out HO6.out Zk.out.size Da);have aR:=zH Bq;clear Bq Da))
    have hO:w7.ownsRow wr.heap.size 45 2 v7 (([]:List (Int×Int)).take 0++GV).length (zN (([]:List (Int×Int)).take 0++GV)):=by
     have:=aR.out;rw[Xh];unfold zN at this⊢
     rw[Wa];simpa using this
    obtain⟨A7,c7,rfl,hS,_⟩:=Yq hO;go_ret3
    rw[HE.out];have hB:=HY.out.trans ((zD HX tC).mono HY.out.size);refine⟨A7,c7,An,cn,?_,hS,qO.out.keep' zu.keeps (Xe HX.out.size tC.out.size) (fun q hq=>((zD HX tC).cell hq)),HW2.out.trans (hB.mono HW2.out.size),fU.out⟩;show _=Ending.returned (.tuple #[.slice A7 (([]:List (Int×Int)).take 0++GV).length c7,.slice An nl.length cn,.int .i64 0]);rw[wY.out];rfl
   ·go_wp2_with(first
     |(at_builtin;refine Zv rfl _ _ 24 rfl wr.heap.size 45 i0 (.agg #[.int .i64 0,.int .i64 0]) 2 16 Tryz.underlying24 hi hz0 hz1 hz2 rfl (by decide) _ 0 [] rfl nV.out (some ad0) d cap _ (zN (st.take d)) (by rw[Yt,htd]) rfl HA.out (QM _) (by unfold maxLen;omega) (by omega) HB0.out.size ?_;intro v6 w6 Bo CR;have Zk:=zH (jx HB0.out nV.out HB0.out.size CR);have HO6:=zH Bo;have M5:=zH (((YQ HG.out.row).below_to (zD HX Zk) (zn _)):zw w6 w5.heap.size Ag (zN GV));clear Bo CR)
     |(at_builtin;refine Zv rfl _ _ 24 rfl wr.heap.size 45 i0 (.agg #[.int .i64 0,.int .i64 0]) 2 16 Tryz.underlying24 hi hz0 hz1 hz2 rfl (by decide) _ (0+d) ([]++zN (st.take d)) rfl HO6.out Ag GV.length cg _ (zN GV) (Yt _) rfl M5.out (QM _) (by unfold maxLen;omega) (by omega) Zk.out.size ?_;intro v7 w7 Bq Da;have tC:=zH (jx Zk.out HO6.out Zk.out.size Da);have aR:=zH Bq;clear Bq Da))
    have hO:w7.ownsRow wr.heap.size 45 2 v7 (st.take d++GV).length (zN (st.take d++GV)):=by
     have:=aR.out;rw[Xh,htd];unfold zN at this⊢
     rw[Wa];simpa using this
    obtain⟨A7,c7,rfl,hS,_⟩:=Yq hO;go_ret3
    rw[HE.out];have hB:=HY.out.trans ((zD HX tC).mono HY.out.size);refine⟨A7,c7,An,cn,?_,hS,qO.out.keep' zu.keeps (Xe HX.out.size tC.out.size) (fun q hq=>((zD HX tC).cell hq)),HW2.out.trans (hB.mono HW2.out.size),fU.out⟩;show _=Ending.returned (.tuple #[.slice A7 (st.take d++GV).length c7,.slice An nl.length cn,.int .i64 0]);rw[wY.out];rfl
