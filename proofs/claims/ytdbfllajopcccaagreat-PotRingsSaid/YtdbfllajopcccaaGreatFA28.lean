import Derived.Test.YtdbfllajopcccaaGreatFA21
namespace Go.Proofs.YtdbfllajopcccaaGreat
set_option maxRecDepth 100000
set_option linter.unusedVariables false
set_option linter.unusedSimpArgs false
open Go.ChangeShapes Go.WideShapes Go.ChangeAt Go.RowKit
theorem kd{α:Type}{At:qI α}(hK:vF At){k:Nat}{w w':World}{A:Option Addr}{c:Nat}{l:List α}(h:zd At k w w.heap.size A c l)(hb:Below w.heap.size w w'):zd At k w' w'.heap.size A c l:=
 (h.below_to hK hb (zn _)).keep' hK hb.size (fun _ _=>rfl)
theorem q0c{c:Prop}[Decidable c]{A B:List (Int×Int)}{n:Nat}(hA:c→A.length≤n)(hB:¬c→B.length≤n):(if c then A else B).length≤n:=by
 by_cases g:c
 ·rw[if_pos g];exact hA g
 ·rw[if_neg g];exact hB g
theorem qnl{m:za}{x:ze}{f:Nat}{op a b:Int}(hm:zP m)(hg:m.methods[f]? =some x)(hi:jb op a b=true)(hn:zQ m x op a b=true):(zE m x op a b).length≤1000:=by
 obtain⟨o0,o1,a0,a1,b0,b1⟩:=Za hi;unfold zE;iterate 13 refine q0c (fun _=>(by simp)) (fun _=> ?_)
 refine q0c (fun _=>Nat.le_trans (q8a x) (by decide)) (fun _=> ?_);refine q0c (fun h=> ?_) (fun _=> ?_)
 ·subst h;have h1:=Yg hn;have h2:a.toNat<m.methods.length:=by omega
  have h3:zm m a ∈m.methods:=by unfold zm;rw[List.getElem?_eq_getElem h2];exact List.getElem_mem h2
  have:=(hm.method h3).all;omega
 refine q0c (fun h=> ?_) (fun _=> ?_)
 ·subst h;obtain⟨_,k,y,hk,hy,_⟩:=Yf hm a0 b0 hn;have h3:zm m (kt m a b)=y:=by unfold zm kt;rw[hk,Option.getD_some,Int.toNat_natCast,hy];rfl
  rw[h3,List.length_cons,List.length_drop];have:=(hm.method (List.mem_of_getElem? hy)).all;omega
 exact q0c (fun _=>(by simp)) (fun _=>(by simp))
def Yy(r:ZZ)(w:World)(e:Ending)(w':World):Prop:=
 ∃A c A' c',e= .returned (.tuple #[.slice A r.after.length c,.slice A' r.next.length c',.int .i64 r.err])∧zd zi 2 w' w'.heap.size A c r.after∧zd zo 1 w' w'.heap.size A' c' r.next∧(∀ad,A=some ad→w.heap.size≤ad.block)∧(∀ad,A'=some ad→w.heap.size≤ad.block)∧Below w.heap.size w w'
theorem Yy.is{r:ZZ}{w w':World}{e:Ending}(h:Yy r w e w'):q6p r w e w':=by
 obtain⟨A,c,A',c',h1,h2,h3,_,_,h6⟩:=h;exact⟨A,c,A',c',h1,h2,h3,h6⟩
theorem q00(n:Int){w w':World}(hb:Below w.heap.size w w'):Yy (qL n) w (.returned (.tuple #[.slice none 0 0,.slice none 0 0,.int .i64 n])) w':=
 ⟨none,0,none,0,rfl,⟨zn _,by omega,fun i t hi=>by simp[qL]at hi⟩,⟨zn _,by omega,fun i t hi=>by simp[qL]at hi⟩,(fun ad e=>by cases e),(fun ad e=>by cases e),hb⟩
theorem own_at{w:World}{B e n:Nat}{A:Option Addr}{m c:Nat}{xs:List Value}{k:Nat}(h:w.ownsRow B e k (.slice A m c) n xs):∀ad,A=some ad→B≤ad.block:=fun ad ea=>by
 subst ea;have:=(h.lt ad.block rfl).1;exact this
theorem qid(m:za)(f pc:Int)(st:List (Int×Int))(A:Option Addr)(cap:Nat)(h:zl)(w:World)(H:zp w w.heap.size h m)(hf:f<0∨(m.methods.length:Int)≤f):
  Calls Tryz.prog 58 #[zr h m,.int .i64 f,.int .i64 pc,.slice A st.length cap] w (Yy (zK m f pc st) w):=by
 have e0:zK m f pc st=qL 1:=by unfold zK;rw[if_neg (by omega)]
 rw[e0];have hle:=H.methods.le;have hcap:=H.methods.cap;have HF:=zH hf;have hpc:pc<0∨((0:Nat):Int)≤pc:=by omega
 have HPC:=zH hpc;have HW:=zH ((zb w.heap.size w).alloc (zn _) (zq h m));have HBX:=zH (qf w h m);clear H e0 hf hpc;go_enter Tryz.func58,Tryz.ntmps58;go_upto_region 1 with fail
 generalize w.alloc (zq h m)=w1 at*
 obtain⟨q0,q1,q2,q3,q4,q5,q6⟩:=HBX.out;go_upto_region 2 with(go_at_call 89;(with_reducible refine(qiq f m.methods.length h.c3 h.A3 w1 (by omega) HF.out).mono ?_);rintro e w2 ⟨rfl,hb⟩;have HB2:=zH hb;clear hb)
 have HC:=zH (qd w2 [.slice none 0 0,.slice none 0 0,.int .i64 0,.int .i64 0,.slice none 0 0,.int .i64 0,.int .i64 0,.slice none 0 0] 42);have HB3:Hid (Below w1.heap.size w1 (w2.alloc (.cells ([.slice none 0 0,.slice none 0 0,.int .i64 0,.int .i64 0,.slice none 0 0,.int .i64 0,.int .i64 0,.slice none 0 0]:List Value).toArray 42))):=zH (HB2.out.alloc HB2.out.size _);change Code.wp _ _ _ _ (w2.alloc (.cells ([.slice none 0 0,.slice none 0 0,.int .i64 0,.int .i64 0,.slice none 0 0,.int .i64 0,.int .i64 0,.slice none 0 0]:List Value).toArray 42));generalize w2.alloc (.cells ([.slice none 0 0,.slice none 0 0,.int .i64 0,.int .i64 0,.slice none 0 0,.int .i64 0,.int .i64 0,.slice none 0 0]:List Value).toArray 42)=w3 at*
 have c4:=HC.out 4 _ rfl;go_wp2_with(go_at_call 90;(with_reducible refine(qay pc 0 0 none w3 (by omega) HPC.out).mono ?_);rintro e w4 ⟨rfl,hb⟩;have HB4:=zj HB3 hb;clear hb)
 go_ret3
 exact q00 1 (HW.out.trans ((HB4.out.alloc HB4.out.size _).mono HW.out.size))
theorem qic(m:za)(x:ze)(F:Nat)(pc:Int)(st:List (Int×Int))(A:Option Addr)(cap:Nat)(h:zl)(w:World)(H:zp w w.heap.size h m)(hx:m.methods[F]? =some x)(hp:pc<0∨(x.code.length:Int)≤pc):
  Calls Tryz.prog 58 #[zr h m,.int .i64 F,.int .i64 pc,.slice A st.length cap] w (Yy (zK m F pc st) w):=by
 have e0:zK m F pc st=qL 1:=by
  unfold zK zm;rw[Int.toNat_natCast,hx,Option.getD_some,if_neg (by omega)]
 rw[e0];have HP:=zH hp;have HG:=zH hx;have HW:=zH ((zb w.heap.size w).alloc (zn _) (zq h m));have HI:=zH (H.now HW.out);have HBX:=zH (qf w h m);clear H e0 hp hx;go_enter Tryz.func58,Tryz.ntmps58;go_upto_region 1 with fail
 generalize w.alloc (zq h m)=w1 at*
 obtain⟨q0,q1,q2,q3,q4,q5,q6⟩:=HBX.out;have HX0:Hid (Below w1.heap.size w1 w1):=zH (zb _ _);go_upto_region 2 with(go_at_call 89;(with_reducible refine(Vh HI HX0 HG.out).mono ?_);rintro e w2 ⟨hn,rfl,hmi,hb⟩;have HM2:=zH hmi;have HB2:=zH hb;clear hmi hb)
 have hc1:=HM2.out.code.le;have hc2:=HM2.out.code.cap;have HC:=zH (qd w2 (qe hn x) 42);have HB3:Hid (Below w1.heap.size w1 (w2.alloc (.cells (qe hn x).toArray 42))):=zH (HB2.out.alloc HB2.out.size _);generalize w2.alloc (.cells (qe hn x).toArray 42)=w3 at*
 have c4:=HC.out 4 _ rfl;go_wp2_with(go_at_call 90;(with_reducible refine(qay pc x.code.length hn.k4 hn.A4 w3 (by omega) HP.out).mono ?_);rintro e w4 ⟨rfl,hb⟩;have HB4:=zj HB3 hb;clear hb)
 go_ret3
 exact q00 1 (HW.out.trans ((HB4.out.alloc HB4.out.size _).mono HW.out.size))
set_option maxHeartbeats 3200000 in
theorem qoy(m:za)(x:ze)(F P:Nat)(op a b:Int)(st:List (Int×Int))(A:Option Addr)(cap:Nat)(h:zl)(w:World)(H:zp w w.heap.size h m)(hm:zP m)(hx:m.methods[F]? =some x)(hin:jb op a b=true)(hna:zQ m x op a b=true)
  (hi:x.code[P]? =some (op,a,b)) (hst:zd zi 2 w w.heap.size A cap st) (hs:st.length≤4000) (r:ZZ) (hr:qr m x P op a b st=r):
  Calls Tryz.prog 58 #[zr h m,.int .i64 F,.int .i64 P,.slice A st.length cap] w (Yy r w):=by
 have HR:=zH hr.symm;have hxm:=hm.method (List.mem_of_getElem? hx);have HFI:=zH hi;have HG:=zH hx;have HN:=zH (And.intro hin hna);have hcl:m.classes.length≤1000:=by have:=hm.fits.cl;omega
 have hP:P<x.code.length:=by
  rcases Nat.lt_or_ge P x.code.length with g|g
  ·exact g
  ·rw[List.getElem?_eq_none g]at hi;cases hi
 have hPm:P≤1000000:=by have:=hxm.fits.cl;omega
 obtain⟨NL,hNL⟩:∃NL,qE (P:Int) op a=NL:=⟨_,rfl⟩
 obtain⟨W,hW⟩:∃W,zN m x op a b=W:=⟨_,rfl⟩
 have HNL:=zH hNL;have HWL:=zH hW;have hWl:W.length≤1000:=by
  rw[←hW,qjv hm hx hin hna];split
  ·omega
  ·exact qnl hm hx hin hna
 obtain⟨d,hd⟩:∃d,st.length - W.length=d:=⟨_,rfl⟩
 have HD:=zH hd;obtain⟨RS,hRS⟩:∃RS,st.take d=RS:=⟨_,rfl⟩
 obtain⟨TK,hTK⟩:∃TK,st.drop d=TK:=⟨_,rfl⟩
 obtain⟨GV,hGV⟩:∃GV,zY m x op a b TK=GV:=⟨_,rfl⟩
 have hTl:TK.length≤1000:=by rw[←hTK,List.length_drop];omega
 have hRl:RS.length≤4000:=by rw[←hRS,List.length_take];omega
 have hGl:GV.length≤1000∨op=6:=by
  by_cases h6:op=6
  ·exact .inr h6
  ·refine .inl ?_;rw[←hGV];unfold zY;rw[if_neg h6];have:=VZ m x op a b;omega
 obtain⟨AF,hAF⟩:∃AF,RS++GV=AF:=⟨_,rfl⟩
 have HAF:=zH hAF;have HGV:=zH hGV;have HRS:=zH hRS;have HTK:=zH hTK;obtain⟨r1,hr1⟩:∃r,ZH x.code.length NL=r:=⟨_,rfl⟩
 obtain⟨r2,hr2⟩:∃r,QG (zw m.classes) TK W=r:=⟨_,rfl⟩
 have HR1:=zH hr1;have HR2:=zH hr2;have HE1:Hid (r1=true→r=qL 4):=zH (fun g=>by rw[←hr];exact qnn hna (by rw[hNL,hr1,g]));have HE2:Hid (r1=false→r=if r2=true then(if 8<AF.length then qL 4 else⟨AF,NL,0⟩)else qL 4):=zH (fun g=>by
  rw[←hr,qk1 hm hx hin hna (by rw[hNL,hr1,g]),hW,hNL];unfold q1q;rw[hd,hTK,hRS,hGV,hAF,hr2])
 have h2:=H.methods.le;have hGl2:r2=true→GV.length≤1000:=fun g=>by
  rcases hGl with q|q
  ·exact q
  ·subst q;have e1:W=[(6,0)]:=by rw[←hW];simp[zN]
   rw[←hr2]at g;unfold QG at g;rw[Bool.and_eq_true,decide_eq_true_eq,e1]at g;have e2:GV=TK++TK:=by rw[←hGV];unfold zY;rw[if_pos rfl]
   rw[e2,List.length_append,g.1];decide
 have HGL:=zH hGl2;have HW0:=zH ((zb w.heap.size w).alloc (zn _) (zq h m));have HI:=zH (H.now HW0.out);have HBX:=zH (qf w h m);have HZ1:Hid (w.heap.size<(w.alloc (zq h m)).heap.size):=zH (by simp);have HST:=zH (kd zi.keeps hst HW0.out);clear H hr hNL hW hd hRS hTK hGV hAF hr1 hr2 hGl hGl2 hin hna hi hx hst hxm hP;go_enter Tryz.func58,Tryz.ntmps58;go_upto_region 1 with fail
 generalize w.alloc (zq h m)=w1 at*
 obtain⟨q0,q1,q2,q3,q4,q5,q6⟩:=HBX.out;have HX0:Hid (Below w1.heap.size w1 w1):=zH (zb _ _);go_upto_region 2 with(go_at_call 89;(with_reducible refine(Vh HI HX0 HG.out).mono ?_);rintro e w2 ⟨hn,rfl,hmi,hb⟩;have HM2:=zH hmi;have HB2:=zH hb;clear hmi hb)
 have HC:=zH (qd w2 (qe hn x) 42);have HA:Hid (Below w2.heap.size w2 (w2.alloc (.cells (qe hn x).toArray 42))):=zH ((zb _ _).alloc (zn _) _);have HZ3:Hid (w2.heap.size<(w2.alloc (.cells (qe hn x).toArray 42)).heap.size):=zH (by simp);have HM3:=zH (HM2.out.now HA.out);have HB3:=zH (HB2.out.trans (HA.out.mono HB2.out.size));generalize w2.alloc (.cells (qe hn x).toArray 42)=w3 at*
 have c4:=HC.out 4 _ rfl;go_upto_region 3 with(go_at_call 90;(with_reducible refine(qmu HM3.out.code HFI.out).mono ?_);rintro e w4 ⟨rfl,hb⟩;have HY4:=zH hb;have HB4:=zj HB3 hb;clear hb)
 have HC5:=zH (qd w4 [.int .i64 op,.int .i64 a,.int .i64 b] 45);have HZ5:Hid (w4.heap.size<(w4.alloc (.cells #[.int .i64 op,.int .i64 a,.int .i64 b] 45)).heap.size):=zH (by simp);have HY5:Hid (Below w3.heap.size w3 (w4.alloc (.cells #[.int .i64 op,.int .i64 a,.int .i64 b] 45))):=zH (HY4.out.alloc HY4.out.size _);have HB5:Hid (Below w1.heap.size w1 (w4.alloc (.cells #[.int .i64 op,.int .i64 a,.int .i64 b] 45))):=zH (HB4.out.alloc HB4.out.size _);clear q0 q1 q2 q3 q4 q5 q6 c4;generalize w4.alloc (.cells #[.int .i64 op,.int .i64 a,.int .i64 b] 45)=w5 at*
 have HC3:=zH (HC.out.keep HY5.out HZ3.out);have HBX5:=zH (HBX.out.keep HB5.out HZ1.out);have HI5:=zH (HI.out.now HB5.out);have HST5:=zH (kd zi.keeps HST.out HB5.out);have HM5:Hid (w2.heap.size<w5.heap.size):=zH (Nat.lt_of_lt_of_le HZ3.out HY5.out.size);have HN5:Hid (w.heap.size<w5.heap.size):=zH (Nat.lt_of_lt_of_le HZ1.out HB5.out.size);have HW5:=zH (HW0.out.trans (HB5.out.mono HW0.out.size));clear HC HM2 HB2 HM3 HB3 HA HB4 HY4 HY5 HBX HI HST HB5 HX0;obtain⟨o0,o1,o2⟩:=zJ HC5.out;go_upto_region 6 with(go_at_call 91;(with_reducible refine(qmp HNL hPm).mono ?_);rintro e w6 ⟨An,cn,rfl,hs6,hna,hb⟩;have HX6:=zH hb;have HS6:=zH hs6;have HNA:=zH hna;clear hs6 hb hna)
 have d4:=(HC3.out.keep HX6.out HM5.out) 4 _ rfl;cases r1
 ·have HX6':=HX6;go_upto_region 8 with(go_at_call 92;(with_reducible refine(q9j HS6.out HR1).mono ?_);rintro e w7 ⟨rfl,hb⟩;have HX7:=zj HX6 hb;have HS7:=zH (kd zo.keeps HS6.out hb);clear hb)
  clear o0 o1 o2 d4;obtain⟨o0,o1,o2⟩:=zJ (HC5.out.keep HX7.out HZ5.out);obtain⟨q0,q1,q2,q3,q4,q5,q6⟩:=HBX5.out.keep HX7.out HN5.out;go_upto_region 9 with(go_at_call 93;(with_reducible refine(qmi HI5 HX7 hm HG HN HWL).mono ?_);rintro e w8 ⟨Aw,cw,rfl,hs8,hb⟩;have HX8:=zj HX7 hb;have HS8:=zH (kd zo.keeps HS7.out hb);have HWS8:=zH hs8;clear hb hs8)
  have HST8:=zH (kd zi.keeps HST5.out HX8.out);go_upto_region 10 with(go_at_call 94;(with_reducible refine(qp4 st W.length (by omega) (by omega) A cap _ HST8.out).mono ?_);rintro e w9 ⟨A1,c1,A2,c2,rfl,hs1,hs2,hb,hh⟩;rw[HD.out]at*;rw[HRS.out]at*;rw[HTK.out]at*;have HX9:=zj HX8 hb;have HS9:=zH (kd zo.keeps HS8.out hb);have HWS9:=zH (kd zi.keeps HWS8.out hb);have HRS9:=zH (kd zi.keeps hs1 hb);have HTK9:=zH (kd zi.keeps hs2 hb);clear hb hs1 hs2 hh)
  clear q0 q1 q2 q3 q4 q5 q6 o0 o1 o2;obtain⟨q0,q1,q2,q3,q4,q5,q6⟩:=HBX5.out.keep HX9.out HN5.out;cases r2
  ·go_wp2_with(go_at_call 95;(with_reducible refine(q9l HI5 HX9 hcl HTK9.out HWS9.out HR2).mono ?_);rintro e w10 ⟨rfl,hb⟩;have HX10:=zj HX9 hb;have HS10:=zH (kd zo.keeps HS9.out hb);have HRS10:=zH (kd zi.keeps HRS9.out hb);have HTK10:=zH (kd zi.keeps HTK9.out hb);clear hb)
   go_ret3
   rw[HE2.out (by simp),if_neg (by simp)];exact q00 4 (HW5.out.trans (HX10.out.mono HW5.out.size))
  ·go_upto_region 12 with(go_at_call 95;(with_reducible refine(q9l HI5 HX9 hcl HTK9.out HWS9.out HR2).mono ?_);rintro e w10 ⟨rfl,hb⟩;have HX10:=zj HX9 hb;have HS10:=zH (kd zo.keeps HS9.out hb);have HRS10:=zH (kd zi.keeps HRS9.out hb);have HTK10:=zH (kd zi.keeps HTK9.out hb);clear hb)
   clear q0 q1 q2 q3 q4 q5 q6;obtain⟨o0,o1,o2⟩:=zJ (HC5.out.keep HX10.out HZ5.out);obtain⟨q0,q1,q2,q3,q4,q5,q6⟩:=HBX5.out.keep HX10.out HN5.out;have hGl:=HGL.out (by simp);go_upto_region 13 with(first
    |(go_at_call 97;(with_reducible refine(qmr HI5 HX10 hm HG HN HGV hTl HTK10.out).mono ?_);rintro e w11 ⟨Ag,cg,rfl,hsg,hb⟩;have HX11:=zj HX10 hb;have HS11:=zH (kd zo.keeps HS10.out hb);have HRS11:=zH (kd zi.keeps HRS10.out hb);have HGV11:=zH hsg;clear hb hsg)
    |(go_at_call 96;(with_reducible refine(qej (g:=w11.heap.size) HAF (VP HRS11.out _) (VP HGV11.out _) (by simp) (qd w11 [.slice A1 RS.length c1,.slice Ag GV.length cg] 23) hRl hGl).mono ?_);rintro e w12 ⟨v12,rfl,ho,hb⟩;have hb':=((zb w11.heap.size w11).alloc (zn _) (.cells #[.slice A1 RS.length c1,.slice Ag GV.length cg] 23)).trans (hb.mono (by simp));obtain⟨Af,cf,rfl,hsf,_⟩:=vy ho;have HFA:=zH (own_at ho);have HX12:=zH (HX11.out.trans (hb'.mono HX11.out.size));have HS12:=zH (kd zo.keeps HS11.out hb');have HAF12:=zH hsf;clear hb hb' ho hsf))
   by_cases h8:8<AF.length
   ·have h8':(AF.length:Int)>8:=by omega
    have H8:=zH h8;go_wp2_with fail
    go_ret3
    rw[HE2.out (by simp),if_pos trivial,if_pos H8.out];exact q00 4 (HW5.out.trans (HX12.out.mono HW5.out.size))
   ·have h8':¬(AF.length:Int)>8:=by omega
    have H8:=zH h8;go_wp2_with fail
    go_ret3
    rw[HE2.out (by simp),if_pos trivial,if_neg H8.out];exact⟨_,_,_,_,rfl,HAF12.out,HS12.out,fun ad ea=>Nat.le_trans (Nat.le_trans (Nat.le_trans HW5.out.size HX11.out.size) (by simp)) (HFA.out ad ea),fun ad ea=>Nat.le_trans HW5.out.size (HNA.out ad ea),HW5.out.trans (HX12.out.mono HW5.out.size)⟩
 ·go_wp2_with(go_at_call 92;(with_reducible refine(q9j HS6.out HR1).mono ?_);rintro e w7 ⟨rfl,hb⟩;have HX7:=zj HX6 hb;clear hb)
  go_ret3
  rw[HE1.out (by simp)];exact q00 4 (HW5.out.trans (HX7.out.mono HW5.out.size))
theorem qmj(m:za)(f pc:Int)(st:List (Int×Int))(A:Option Addr)(cap:Nat)(h:zl)(w:World)(H:zp w w.heap.size h m)(hm:zP m)(hst:zd zi 2 w w.heap.size A cap st)(hs:st.length≤4000):
  Calls Tryz.prog 58 #[zr h m,.int .i64 f,.int .i64 pc,.slice A st.length cap] w (Yy (zK m f pc st) w):=by
 by_cases f0:f<0∨(m.methods.length:Int)≤f
 ·exact qid m f pc st A cap h w H f0
 obtain⟨F,rfl⟩:=Int.eq_ofNat_of_zero_le (show 0≤f by omega);have hF:F<m.methods.length:=by omega
 obtain⟨x,hx⟩:∃x,m.methods[F]? =some x:=⟨_,List.getElem?_eq_getElem hF⟩
 by_cases p0:pc<0∨(x.code.length:Int)≤pc
 ·exact qic m x F pc st A cap h w H hx p0
 obtain⟨P,rfl⟩:=Int.eq_ofNat_of_zero_le (show 0≤pc by omega);have hP:P<x.code.length:=by omega
 obtain⟨⟨op,a,b⟩,hi⟩:∃i,x.code[P]? =some i:=⟨_,List.getElem?_eq_getElem hP⟩
 have e:zK m (F:Int) (P:Int) st=qr m x P op a b st:=by
  unfold zK zm;rw[Int.toNat_natCast,hx,Option.getD_some,if_pos ⟨by omega,by omega,by omega,by omega⟩,Int.toNat_natCast,hi]
 rw[e];have hxm:=hm.method (List.mem_of_getElem? hx);have him:=List.mem_of_getElem? hi;exact qoy m x F P op a b st A cap h w H hm hx (hxm.fits.ct _ him) (hxm.co _ him) hi hst hs _ rfl
end Go.Proofs.YtdbfllajopcccaaGreat
