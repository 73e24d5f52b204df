import Derived.Test.YtnfeiginmngknaaGreatFZ28
namespace Go.Proofs.YtnfeiginmngknaaGreat
set_option maxRecDepth 100000
set_option linter.unusedVariables false
set_option linter.unusedSimpArgs false
open Go.ChangeShapes Go.WideShapes Go.ChangeAt Go.RowKit
theorem q0r{P:Prop}(h:P:=by
 go_wp2_with(first|(go_at_call 175;(with_reducible refine(q0v op Bw.1 Bw.2 _).mono ?_);rintro e w9 ⟨rfl,rfl⟩)|(go_at_call 190;(with_reducible refine(q07 (zH rfl) HN HC HX).mono ?_);rintro e w3 ⟨v3,rfl,ho3,hb3⟩;have qa:=zH ho3;have zp:=zH hb3;clear ho3 hb3))
 go_ret;exact JV (bP.some_ (w0:=w2) ⟨_,rfl,qa.out,zp.out⟩ HW.out) (by simp[Qn,jg,ZY,rP, *])):P:=h
set_option maxHeartbeats 6400000 in
theorem q8u(m:za)(x:zl)(f:Nat)(op a b:Int)(tk:List (Int×Int))(A:Option Addr)(c:Nat)(htl:tk.length<=1000)(h:zh)(w:World)(H:zr w w.heap.size h m)(hm:zP m)(hg:m.methods[f]? =some x)(hi:qs op a b=true)(hn:zK m x op a b=true)(HT:zd zf 2 w w.heap.size A c tk):
  Calls Tryz.prog 146 #[zv h m,qt op a b,.int .i64 f,.slice A tk.length c] w (Ys (Qn m x op a b tk) w):=by
 obtain⟨o0,o1,a0,a1,b0,b1⟩:=YN hi;have hcl:m.classes.length<=1000:=by have:=hm.fits.cl;omega
 have HF:Hid (∀c ∈m.classes,c.fields.length<=1000):=zH fun c hc=>by have:=(hm.fits.ct c hc).fl;omega
 obtain⟨hw,hp⟩:=Rn h m op a b w;have HW:=zH hw;have HP:=zH hp;have HI:=zH (H.now hw);have HM:=zH hm;have HG:=zH hg;have Qf:=zH hn;have HTK:=zH ((HT.below_to zf.keeps hw (zn _)).keep' zf.keeps hw.size (fun _ _=>rfl));clear hw hp H hi hm hg hn HT;go_enter Tryz.func146,Tryz.ntmps146;go_upto_region 1 with fail
 change Code.wp _ _ _ _ (iH h m op a b w);go_upto_region 2 with(go_at_call 167;(refine(V6 (h:=h) (m:=m) (w:=w)).mono ?_);rintro e w2 ⟨rfl,rfl⟩)
 generalize Bg h m op a b w=w2 at*
 have HX:=qP w2;have HN:=zH HP.out.fnlt;have HC:=zH HP.out.fn;obtain⟨q0,q1,q2,q3,q4,q5,q6⟩:=HP.out.img;obtain⟨o0,o1,o2⟩:=qv HP.out.ins;by_cases nl:op=1\/op=2\/op=20\/op=21\/op=22\/op=23\/op=24\/op=26\/op=34
 ·rcases nl with rfl|rfl|rfl|rfl|rfl|rfl|rfl|rfl|rfl<;>exact q0r
 by_cases n3:op=3
 ·subst n3;obtain⟨t,ht⟩:=zj (vB x a);have HT:=zH ht;clear ht;go_wp2_with(go_at_call 168;(with_reducible refine(Ui HI HX HG.out (by omega) HT).mono ?_);rintro e w3 ⟨rfl,hb⟩;have zp:=zH hb;clear hb)
  go_ret;exact JV (L:=[t]) ⟨_,_,rfl,JT (by simp) (by go_simp) (by go_simp),HW.out.trans ((zp.out.alloc zp.out.size _).mono HW.out.size)⟩ (by simp[Qn,jg,HT.out])
 by_cases n29:op=29
 ·subst n29;obtain⟨j,rfl⟩:=Xj a0;have hj:j<m.statics.length:=by have:=uH (op:=29) (by omega) Qf.out;omega
  go_wp2_with(go_at_call 170;(with_reducible refine(Sc HI HX (zH (Xc hj))).mono ?_);rintro e w3 ⟨rfl,hb⟩;have zp:=zH hb;clear hb)
  go_ret;exact JV (L:=[m.statics[j]]) ⟨_,_,rfl,JT (by simp) (by go_simp) (by go_simp),HW.out.trans ((zp.out.alloc zp.out.size _).mono HW.out.size)⟩ (by simp[Qn,jg,gX,hj])
 by_cases n27:op=27
 ·subst n27;obtain⟨k,rfl⟩:=Xj b0;have hk:k<(qg m.classes a).length:=by have:=(oZ (op:=27) (by omega) Qf.out).2;omega
  obtain⟨t,ht⟩:=zj ((qg m.classes a)[k]);have HK:Hid ((qg m.classes a)[k]? =some t):=zH (by rw[<-ht];exact Xc hk);clear ht hk;go_wp2_with(go_at_call 169;(with_reducible refine(Uj HI HX HK hcl HF).mono ?_);rintro e w3 ⟨rfl,hb⟩;have zp:=zi HX hb;clear hb)
  go_ret;exact JV (L:=[t]) ⟨_,_,rfl,JT (by simp) (by go_simp) (by go_simp),HW.out.trans ((zp.out.alloc zp.out.size _).mono HW.out.size)⟩ (by simp[Qn,jg,bZ,HK.out])
 by_cases n31:op=31
 ·subst n31;obtain⟨j,rfl⟩:=Xj a0;have hj:j<m.methods.length:=by have:=o8 Qf.out;omega
  go_wp2_with(go_at_call 174;(with_reducible refine(J8 HI HX (Xc hj)).mono ?_);rintro e w3 ⟨A3,c3,rfl,hs3,hb⟩;have zp:=zi HX hb;have jM:=zH hs3;clear hb hs3)
  go_ret;exact JV ⟨_,_,rfl,jM.out,zD HW zp⟩ (by simp[Qn,jg,zA,hj])
 by_cases n6:op=6
 ·subst n6;obtain⟨N,hN⟩:=zj (tk++tk);have Yf:=zH hN;clear hN;have HA:Hid (Below w2.heap.size w2 (w2.alloc (.cells #[.slice A tk.length c,.slice A tk.length c] 24))):=zH (zk);go_wp2_with(go_at_call 145;(with_reducible refine(q8x (g:=w2.heap.size) Yf (yO HTK.out _) (yO HTK.out _) (by simp) (qr w2 [.slice A tk.length c,.slice A tk.length c] 24) htl htl).mono ?_);rintro e w3 ⟨v3,rfl,ho3,hb3⟩;have qa:=zH (js ho3 HA.out.size);have zp:=zi HA hb3;clear ho3 hb3)
  go_ret;exact JV (bP.some_ (w0:=w2) ⟨_,rfl,qa.out,zp.out⟩ HW.out) (by simp[Qn,Yf.out])
 by_cases Bw:7<=op/\op<=17
 ·simp only[not_or]at nl;obtain⟨n1,n2,n20,n21,n22,n23,n24,n26,n34⟩:=nl;have n32:¬op=32:=by omega
  exact q0r
 by_cases n32:op=32
 ·subst n32;obtain⟨_,k,y,hs,hy,hp⟩:=o7 HM.out a0 b0 Qf.out;have jD:=zH hs;have HY:=zH hy;have tL:Hid (Qn m x 32 a b tk=vb y):=zH (by simp[Qn,jg,Yz,zA,hs,hy]);have jC:=rz.held HP;have qy:Hid (Below w2.heap.size w2 w2.drew):=zH (zb _ _).drew;clear hs hy hp;go_wp2_with fail
  clear q0 q1 q2 q3 q4 q5 q6 o0 o1 o2;refine wp_region_noPanic ?_;refine wp_region_held_drew (S:=Fv w.heap.size h m 32 a b) (by kernel_rfl) (jC.out _ qy.out) (fun hHeld=> ?_);refine mT 0 (h:=mT 1 (h:=mT 2 (h:=mR 3 (h:=fun K hK=> ?_))));go_simp;go_wp2_with(go_at_call 173;(with_reducible refine(Wy HI qy jD).mono ?_);rintro e w4 ⟨rfl,hb⟩;have HX4:=zi qy hb;clear hb)
  refine mK hK (jC.out _ HX4.out) (h:=fun hHeld=> ?_);clear hK K;refine mR 4 (h:=fun K hK=> ?_);go_simp;go_wp2_with(go_at_call 174;(with_reducible refine(J8 HI HX4 HY.out).mono ?_);rintro e w5 ⟨A3,c3,rfl,hs3,hb⟩;have zp:=zi HX4 hb;have jM:=zH hs3;clear hb hs3)
  refine mK hK (jC.out _ zp.out) (h:=fun hHeld=> ?_);clear hK K;refine mT 5 (h:= ?_);refine wpAnyH_done (by kernel_rfl) ?_ _;refine NoPanic.normal ?_;go_wp2_with fail
  go_ret;exact JV ⟨_,_,rfl,jM.out,zD HW zp⟩ tL.out
 simp only[not_or]at nl;obtain⟨n1,n2,n20,n21,n22,n23,n24,n26,n34⟩:=nl;go_wp2_with(go_at_call 175;(with_reducible refine(is_no op (by omega) _).mono ?_);rintro e w9 ⟨rfl,rfl⟩)
 go_ret;exact JV ⟨none,0,rfl,va,HW.out⟩ (by simp[Qn,jg,n1,n2,n3,n6,n20,n21,n22,n23,n24,n26,n27,n29,n31,n32,n34];omega)
theorem qdl{m:za}{x:zl}{f:Nat}{op a b:Int}{h:zh}{w0 w:World}{L:List (Int×Int)}(HI:Hid (zr w0 w0.heap.size h m))(HX:Hid (Below w0.heap.size w0 w))(hm:zP m)(HG:Hid (m.methods[f]? =some x))(HN:Hid (qs op a b=true/\zK m x op a b=true))(HL:Hid (jE m x op a b=L)):
  Calls Tryz.prog 142 #[zv h m,qt op a b,.int .i64 f] w (Ys L w):=by
 have H:=q8j m x f op a b h w (HI.out.now HX.out) hm HG.out HN.out.1 HN.out.2;rw[HL.out]at H;exact H
theorem qdv{m:za}{x:zl}{f:Nat}{op a b:Int}{h:zh}{w0 w:World}{tk L:List (Int×Int)}{A:Option Addr}{c:Nat}(HI:Hid (zr w0 w0.heap.size h m))(HX:Hid (Below w0.heap.size w0 w))(hm:zP m)(HG:Hid (m.methods[f]? =some x))(HN:Hid (qs op a b=true/\zK m x op a b=true))(HL:Hid (Qn m x op a b tk=L))(htl:tk.length<=1000)(HT:zd zf 2 w w.heap.size A c tk):
  Calls Tryz.prog 146 #[zv h m,qt op a b,.int .i64 f,.slice A tk.length c] w (Ys L w):=by
 have H:=q8u m x f op a b tk A c htl h w (HI.out.now HX.out) hm HG.out HN.out.1 HN.out.2 HT;rw[HL.out]at H;exact H
theorem Yu{α:Type}{At:qV α}(hK:ZC At){k:Nat}{w w':World}{A:Option Addr}{c:Nat}{l:List α}(h:zd At k w w.heap.size A c l)(hb:Below w.heap.size w w'):zd At k w' w'.heap.size A c l:=
 (h.below_to hK hb (zn _)).keep' hK hb.size (fun _ _=>rfl)
theorem EE{c:Prop}[Decidable c]{A B:List (Int×Int)}{n:Nat}(hA:c->A.length<=n)(hB:¬c->B.length<=n):(if c then A else B).length<=n:=by
 grind
theorem qfn{m:za}{x:zl}{f:Nat}{op a b:Int}(hm:zP m)(hg:m.methods[f]? =some x)(hi:qs op a b=true)(hn:zK m x op a b=true):(jq m x op a b).length<=1000:=by
 obtain⟨o0,o1,a0,a1,b0,b1⟩:=YN hi;unfold jq;iterate 13 refine EE (fun _=>(by simp)) (fun _=> ?_)
 refine EE (by grind [Xe,Q4]) (fun _=> ?_);refine EE (fun h=> ?_) (fun _=> ?_)
 ·subst h;have h1:=o8 hn;have h2:a.toNat<m.methods.length:=by omega
  have h3:zA m a ∈m.methods:=by unfold zA;grind
  have:=(hm.method h3).all;omega
 refine EE (fun h=> ?_) (fun _=> ?_)
 ·subst h;obtain⟨_,k,y,hk,hy,_⟩:=o7 hm a0 b0 hn;have h3:zA m (Yz m a b)=y:=by unfold zA Yz;grind
  rw[h3,XI,XK];have:=(hm.method (Xr hy)).all;omega
 grind
def rA(r:df)(w:World)(e:Ending)(w':World):Prop:=
 ∃A c A' c',e= .returned (.tuple #[.slice A r.after.length c,.slice A' r.next.length c',.int .i64 r.err])/\zd zf 2 w' w'.heap.size A c r.after/\zd zu 1 w' w'.heap.size A' c' r.next/\(∀ad,A=some ad->w.heap.size<=ad.block)/\(∀ad,A'=some ad->w.heap.size<=ad.block)/\Below w.heap.size w w'
theorem rA.is{r:df}{w w':World}{e:Ending}(h:rA r w e w'):L9 r w e w':=by
 obtain⟨A,c,A',c',h1,h2,h3,_,_,h6⟩:=h;exact⟨A,c,A',c',h1,h2,h3,h6⟩
theorem yZ(n:Int){w w':World}(hb:Below w.heap.size w w'):rA (qS n) w (.returned (.tuple #[.slice none 0 0,.slice none 0 0,.int .i64 n])) w':=
 ⟨none,0,none,0,rfl,⟨zn _,by omega,fun i t hi=>by simp[qS]at hi⟩,⟨zn _,by omega,fun i t hi=>by simp[qS]at hi⟩,(by grind),(by grind),hb⟩
theorem own_at{w:World}{B e n:Nat}{A:Option Addr}{m c:Nat}{xs:List Value}{k:Nat}(h:w.ownsRow B e k (.slice A m c) n xs):∀ad,A=some ad->B<=ad.block:=fun ad ea=>by
 subst ea;have:=(h.lt ad.block rfl).1;exact this
theorem q8l(m:za)(f pc:Int)(st:List (Int×Int))(A:Option Addr)(cap:Nat)(h:zh)(w:World)(H:zr w w.heap.size h m)(hf:f<0\/(m.methods.length:Int)<=f):
  Calls Tryz.prog 105 #[zv h m,.int .i64 f,.int .i64 pc,.slice A st.length cap] w (rA (zI m f pc st) w):=by
 have e0:zI m f pc st=qS 1:=by unfold zI;grind
 rw[e0];have hle:=H.methods.le;have hcap:=H.methods.cap;have HF:=zH hf;have hpc:pc<0\/((0:Nat):Int)<=pc:=by omega
 have HPC:=zH hpc;have HW:=zH (zk (w:=w) (o:=(ze h m)));have HBX:=zH (qd w h m);clear H e0 hf hpc;go_enter Tryz.func105,Tryz.ntmps105;go_upto_region 1 with fail
 generalize w.alloc (ze h m)=w1 at*
 obtain⟨q0,q1,q2,q3,q4,q5,q6⟩:=HBX.out;go_upto_region 2 with(go_at_call 138;(with_reducible refine(q90 f m.methods.length h.c3 h.A3 w1 (by omega) HF.out).mono ?_);rintro e w2 ⟨rfl,hb⟩;have HB2:=zH hb;clear hb)
 have HC:=zH (qr w2 [.slice none 0 0,.slice none 0 0,.int .i64 0,.int .i64 0,.slice none 0 0,.int .i64 0,.int .i64 0,.slice none 0 0] 48);have HB3:Hid (Below w1.heap.size w1 (w2.alloc (.cells ([.slice none 0 0,.slice none 0 0,.int .i64 0,.int .i64 0,.slice none 0 0,.int .i64 0,.int .i64 0,.slice none 0 0]:List Value).toArray 48))):=zH (HB2.out.alloc HB2.out.size _);change Code.wp _ _ _ _ (w2.alloc (.cells ([.slice none 0 0,.slice none 0 0,.int .i64 0,.int .i64 0,.slice none 0 0,.int .i64 0,.int .i64 0,.slice none 0 0]:List Value).toArray 48));generalize w2.alloc (.cells ([.slice none 0 0,.slice none 0 0,.int .i64 0,.int .i64 0,.slice none 0 0,.int .i64 0,.int .i64 0,.slice none 0 0]:List Value).toArray 48)=w3 at*
 have c4:=HC.out 4 _ rfl;go_wp2_with(go_at_call 139;(with_reducible refine(Uk pc 0 0 none w3 (by omega) HPC.out).mono ?_);rintro e w4 ⟨rfl,hb⟩;have jw:=zi HB3 hb;clear hb)
 go_ret3
 exact yZ 1 (HW.out.trans ((jw.out.alloc jw.out.size _).mono HW.out.size))
theorem q8k(m:za)(x:zl)(F:Nat)(pc:Int)(st:List (Int×Int))(A:Option Addr)(cap:Nat)(h:zh)(w:World)(H:zr w w.heap.size h m)(hx:m.methods[F]? =some x)(hp:pc<0\/(x.code.length:Int)<=pc):
  Calls Tryz.prog 105 #[zv h m,.int .i64 F,.int .i64 pc,.slice A st.length cap] w (rA (zI m F pc st) w):=by
 have e0:zI m F pc st=qS 1:=by
  unfold zI zA
  grind
 rw[e0];have HP:=zH hp;have HG:=zH hx;have HW:=zH (zk (w:=w) (o:=(ze h m)));have HI:=zH (H.now HW.out);have HBX:=zH (qd w h m);clear H e0 hp hx;go_enter Tryz.func105,Tryz.ntmps105;go_upto_region 1 with fail
 generalize w.alloc (ze h m)=w1 at*
 obtain⟨q0,q1,q2,q3,q4,q5,q6⟩:=HBX.out;have HX0:=qP w1;go_upto_region 2 with(go_at_call 138;(with_reducible refine(uX HI HX0 HG.out).mono ?_);rintro e w2 ⟨hn,rfl,VU,hb⟩;have Zl:=zH VU;have HB2:=zH hb;clear VU hb)
 have hc1:=Zl.out.code.le;have hc2:=Zl.out.code.cap;have HC:=zH (qr w2 (qj hn x) 48);have HB3:Hid (Below w1.heap.size w1 (w2.alloc (.cells (qj hn x).toArray 48))):=zH (HB2.out.alloc HB2.out.size _);generalize w2.alloc (.cells (qj hn x).toArray 48)=w3 at*
 have c4:=HC.out 4 _ rfl;go_wp2_with(go_at_call 139;(with_reducible refine(Uk pc x.code.length hn.k4 hn.A4 w3 (by omega) HP.out).mono ?_);rintro e w4 ⟨rfl,hb⟩;have jw:=zi HB3 hb;clear hb)
 go_ret3
 exact yZ 1 (HW.out.trans ((jw.out.alloc jw.out.size _).mono HW.out.size))
set_option maxHeartbeats 3200000 in
theorem qhl(m:za)(x:zl)(F P:Nat)(op a b:Int)(st:List (Int×Int))(A:Option Addr)(cap:Nat)(h:zh)(w:World)(H:zr w w.heap.size h m)(hm:zP m)(hx:m.methods[F]? =some x)(hin:qs op a b=true)(hna:zK m x op a b=true)
  (hi:x.code[P]? =some (op,a,b)) (hst:zd zf 2 w w.heap.size A cap st) (hs:st.length<=4000) (r:df) (hr:qT m x P op a b st=r):
  Calls Tryz.prog 105 #[zv h m,.int .i64 F,.int .i64 P,.slice A st.length cap] w (rA r w):=by
 have HR:=zH hr.symm;have hxm:=hm.method (Xr hx);have kg:=zH hi;have HG:=zH hx;have HN:=zH (And.intro hin hna);have hcl:m.classes.length<=1000:=by have:=hm.fits.cl;omega
 have hP:P<x.code.length:=by
  grind
 have Yd:P<=1000000:=by have:=hxm.fits.cl;omega
 obtain⟨NL,Ga⟩:=zj (jt (P:Int) op a);obtain⟨W,hW⟩:=zj (jE m x op a b);have Vo:=zH Ga;have M0:=zH hW;have hWl:W.length<=1000:=by
  grind [qai,qfn]
 obtain⟨d,hd⟩:=zj (st.length - W.length);have HD:=zH hd;obtain⟨RS,hRS⟩:=zj (st.take d);obtain⟨TK,xL⟩:=zj (st.drop d);obtain⟨GV,oK⟩:=zj (Qn m x op a b TK);have MX:TK.length<=1000:=by grind
 have hRl:RS.length<=4000:=by grind
 have FL:GV.length<=1000\/op=6:=by
  by_cases h6:op=6
  ·omega
  ·refine .inl ?_;rw[<-oK];unfold Qn;rw[Xa h6]
   grind [R9]
 obtain⟨AF,hAF⟩:=zj (RS++GV);have HAF:=zH hAF;have lh:=zH oK;have kK:=zH hRS;have HTK:=zH xL;obtain⟨r1,hr1⟩:∃r,VL x.code.length NL=r:=⟨_,rfl⟩
 obtain⟨r2,hr2⟩:∃r,eX (zy m.classes) TK W=r:=⟨_,rfl⟩
 have HR1:=zH hr1;have HR2:=zH hr2;have aW:Hid (r1=true->r=qS 4):=(by grind [zH,qfr])
 have HE2:Hid (r1=false->r=if r2=true then(if 8<AF.length then qS 4 else⟨AF,NL,0⟩)else qS 4):=zH (fun g=>by
  rw[<-hr,qay hm hx hin hna (by rw[Ga,hr1,g]),hW,Ga];unfold DW
  grind)
 have q1m:r2=true->GV.length<=1000:=fun g=>by
  rcases FL with q|q
  ·exact q
  ·subst q;have e1:W=[(6,0)]:=by rw[<-hW];simp[jE]
   rw[<-hr2]at g;unfold eX at g;rw[Xt,Xw,e1]at g;have e2:GV=TK++TK:=by rw[<-oK];unfold Qn;grind
   grind
 have dV:=zH q1m;have HW0:=zH (zk (w:=w) (o:=(ze h m)));have HI:=zH (H.now HW0.out);have HBX:=zH (qd w h m);have HZ1:Hid (w.heap.size<(w.alloc (ze h m)).heap.size):=zH (by simp);have HST:=zH (Yu zf.keeps hst HW0.out);clear H hr Ga hW hd hRS xL oK hAF hr1 hr2 FL q1m hin hna hi hx hst hxm hP;go_enter Tryz.func105,Tryz.ntmps105;go_upto_region 1 with fail
 generalize w.alloc (ze h m)=w1 at*
 obtain⟨q0,q1,q2,q3,q4,q5,q6⟩:=HBX.out;have HX0:=qP w1;go_upto_region 2 with(go_at_call 138;(with_reducible refine(uX HI HX0 HG.out).mono ?_);rintro e w2 ⟨hn,rfl,VU,hb⟩;have Zl:=zH VU;have HB2:=zH hb;clear VU hb)
 have HC:=zH (qr w2 (qj hn x) 48);have HA:Hid (Below w2.heap.size w2 (w2.alloc (.cells (qj hn x).toArray 48))):=zH (zk);have HZ3:Hid (w2.heap.size<(w2.alloc (.cells (qj hn x).toArray 48)).heap.size):=zH (by simp);have Vm:=zH (Zl.out.now HA.out);have HB3:=zH (zD HB2 HA);generalize w2.alloc (.cells (qj hn x).toArray 48)=w3 at*
 have c4:=HC.out 4 _ rfl;go_upto_region 3 with(go_at_call 139;(with_reducible refine(qdy Vm.out.code kg.out).mono ?_);rintro e w4 ⟨rfl,hb⟩;have bu:=zH hb;have jw:=zi HB3 hb;clear hb)
 have Mv:=zH (qr w4 [.int .i64 op,.int .i64 a,.int .i64 b] 50);have oz:Hid (w4.heap.size<(w4.alloc (.cells #[.int .i64 op,.int .i64 a,.int .i64 b] 50)).heap.size):=zH (by simp);have fZ:Hid (Below w3.heap.size w3 (w4.alloc (.cells #[.int .i64 op,.int .i64 a,.int .i64 b] 50))):=zH (bu.out.alloc bu.out.size _);have kh:Hid (Below w1.heap.size w1 (w4.alloc (.cells #[.int .i64 op,.int .i64 a,.int .i64 b] 50))):=zH (jw.out.alloc jw.out.size _);clear q0 q1 q2 q3 q4 q5 q6 c4;generalize w4.alloc (.cells #[.int .i64 op,.int .i64 a,.int .i64 b] 50)=w5 at*
 have lQ:=zH (HC.out.keep fZ.out HZ3.out);have yx:=zH (HBX.out.keep kh.out HZ1.out);have aV:=zH (HI.out.now kh.out);have qla:=zH (Yu zf.keeps HST.out kh.out);have nY:Hid (w2.heap.size<w5.heap.size):=zH (Xp HZ3.out fZ.out.size);have xM:Hid (w.heap.size<w5.heap.size):=zH (Xp HZ1.out kh.out.size);have qM:=zH (zD HW0 kh);clear HC Zl HB2 Vm HB3 HA jw bu fZ HBX HI HST kh HX0;obtain⟨o0,o1,o2⟩:=qv Mv.out;go_upto_region 6 with(go_at_call 140;(with_reducible refine(qdt Vo Yd).mono ?_);rintro e w6 ⟨An,cn,rfl,hs6,hna,hb⟩;have HX6:=zH hb;have yu:=zH hs6;have fU:=zH hna;clear hs6 hb hna)
 have d4:=(lQ.out.keep HX6.out nY.out) 4 _ rfl;cases r1
 ·go_upto_region 8 with(go_at_call 141;(with_reducible refine(Sg yu.out HR1).mono ?_);rintro e w7 ⟨rfl,hb⟩;have Zf:=zi HX6 hb;have Bv:=zH (Yu zu.keeps yu.out hb);clear hb)
  clear o0 o1 o2 d4;obtain⟨o0,o1,o2⟩:=qv (Mv.out.keep Zf.out oz.out);obtain⟨q0,q1,q2,q3,q4,q5,q6⟩:=yx.out.keep Zf.out xM.out;go_upto_region 9 with(go_at_call 142;(with_reducible refine(qdl aV Zf hm HG HN M0).mono ?_);rintro e w8 ⟨Aw,cw,rfl,QW,hb⟩;have aa:=zi Zf hb;have Na:=zH (Yu zu.keeps Bv.out hb);have qm4:=zH QW;clear hb QW)
  have qlz:=zH (Yu zf.keeps qla.out aa.out);go_upto_region 10 with(go_at_call 143;(with_reducible refine(qhr st W.length (by omega) (by omega) A cap _ qlz.out).mono ?_);rintro e w9 ⟨A1,c1,A2,c2,rfl,hs1,hs2,hb,hh⟩;rw[HD.out]at*;rw[kK.out]at*;rw[HTK.out]at*;have QU:=zi aa hb;have OH:=zH (Yu zu.keeps Na.out hb);have q2y:=zH (Yu zf.keeps qm4.out hb);have qlc:=zH (Yu zf.keeps hs1 hb);have Ng:=zH (Yu zf.keeps hs2 hb);clear hb hs1 hs2 hh)
  clear q0 q1 q2 q3 q4 q5 q6 o0 o1 o2;obtain⟨q0,q1,q2,q3,q4,q5,q6⟩:=yx.out.keep QU.out xM.out;cases r2
  ·go_wp2_with(go_at_call 144;(with_reducible refine(Sj aV QU hcl Ng.out q2y.out HR2).mono ?_);rintro e Ms ⟨rfl,hb⟩;have nM:=zi QU hb;clear hb)
   go_ret3
   rw[HE2.out (by simp),Xa (by simp)];exact yZ 4 (zD qM nM)
  ·go_upto_region 12 with(go_at_call 144;(with_reducible refine(Sj aV QU hcl Ng.out q2y.out HR2).mono ?_);rintro e Ms ⟨rfl,hb⟩;have nM:=zi QU hb;have qlw:=zH (Yu zu.keeps OH.out hb);have qkn:=zH (Yu zf.keeps qlc.out hb);have ql6:=zH (Yu zf.keeps Ng.out hb);clear hb)
   clear q0 q1 q2 q3 q4 q5 q6;obtain⟨o0,o1,o2⟩:=qv (Mv.out.keep nM.out oz.out);obtain⟨q0,q1,q2,q3,q4,q5,q6⟩:=yx.out.keep nM.out xM.out;have FL:=dV.out (by simp);go_upto_region 13 with(first
    |(go_at_call 146;(with_reducible refine(qdv aV nM hm HG HN lh MX ql6.out).mono ?_);rintro e Oj ⟨Ag,cg,rfl,hsg,hb⟩;have M6:=zi nM hb;have qm3:=zH (Yu zu.keeps qlw.out hb);have qlp:=zH (Yu zf.keeps qkn.out hb);have qlm:=zH hsg;clear hb hsg)
    |(go_at_call 145;(with_reducible refine(q48 (g:=Oj.heap.size) HAF (yO qlp.out _) (yO qlm.out _) (by simp) (qr Oj [.slice A1 RS.length c1,.slice Ag GV.length cg] 24) hRl FL).mono ?_);rintro e w12 ⟨v12,rfl,ho,hb⟩;have hb':=(zk (w:=Oj) (o:=(.cells #[.slice A1 RS.length c1,.slice Ag GV.length cg] 24))).trans (hb.mono (by simp));obtain⟨Af,cf,rfl,hsf,_⟩:=Yq ho;have Zg:=zH (own_at ho);have q27:=zH (M6.out.trans (hb'.mono M6.out.size));have ql1:=zH (Yu zu.keeps qm3.out hb');have qlk:=zH hsf;clear hb hb' ho hsf))
   by_cases h8:8<AF.length
   ·have h8':(AF.length:Int)>8:=by omega
    have H8:=zH h8;go_wp2_with fail
    go_ret3
    rw[HE2.out (by simp),Xb Xs,Xb H8.out];exact yZ 4 (zD qM q27)
   ·have h8':¬(AF.length:Int)>8:=by omega
    have H8:=zH h8;go_wp2_with fail
    go_ret3
    rw[HE2.out (by simp),Xb Xs,Xa H8.out];exact⟨_,_,_,_,rfl,qlk.out,ql1.out,fun ad ea=>Xe (Xe (Xe qM.out.size M6.out.size) (by simp)) (Zg.out ad ea),fun ad ea=>Xe qM.out.size (fU.out ad ea),zD qM q27⟩
 ·go_wp2_with(go_at_call 141;(with_reducible refine(Sg yu.out HR1).mono ?_);rintro e w7 ⟨rfl,hb⟩;have Zf:=zi HX6 hb;clear hb)
  go_ret3
  rw[aW.out (by simp)];exact yZ 4 (zD qM Zf)
theorem Ug(m:za)(f pc:Int)(st:List (Int×Int))(A:Option Addr)(cap:Nat)(h:zh)(w:World)(H:zr w w.heap.size h m)(hm:zP m)(hst:zd zf 2 w w.heap.size A cap st)(hs:st.length<=4000):
  Calls Tryz.prog 105 #[zv h m,.int .i64 f,.int .i64 pc,.slice A st.length cap] w (rA (zI m f pc st) w):=by
 by_cases f0:f<0\/(m.methods.length:Int)<=f
 ·grind [q8l]
 obtain⟨F,rfl⟩:=Xj (show 0<=f by omega);have hF:F<m.methods.length:=by omega
 obtain⟨x,hx⟩:∃x,m.methods[F]? =some x:=(by simp_all)
 by_cases p0:pc<0\/(x.code.length:Int)<=pc
 ·grind [q8k]
 obtain⟨P,rfl⟩:=Xj (show 0<=pc by omega);have hP:P<x.code.length:=by omega
 obtain⟨⟨op,a,b⟩,hi⟩:∃i,x.code[P]? =some i:=(by simp_all)
 have e:zI m (F:Int) (P:Int) st=qT m x P op a b st:=by
  unfold zI zA
  grind
 rw[e];have hxm:=hm.method (Xr hx);have him:=Xr hi;exact qhl m x F P op a b st A cap h w H hm hx (hxm.fits.ct _ him) (hxm.co _ him) hi hst hs _ rfl
