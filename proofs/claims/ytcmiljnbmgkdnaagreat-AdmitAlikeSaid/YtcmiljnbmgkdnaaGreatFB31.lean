import Derived.Test.YtcmiljnbmgkdnaaGreatFB29
namespace Go.Proofs.YtcmiljnbmgkdnaaGreat
set_option maxRecDepth 100000
set_option linter.unusedVariables false
set_option linter.unusedSimpArgs false
open Go.ChangeShapes Go.WideShapes Go.ChangeAt Go.RowKit
theorem qki:(Tryz.prog.info? 75).map (fun i=>(i.zero,i.size,i.bytes))=some (some (.agg #[.bool false,.slice none 0 0]),2,32):=by kernel_rfl
theorem qhl(n:Nat):(madeCells (Value.agg #[.bool false,.slice none 0 0]).cells (n*2)).toList=ZD (List.replicate n ⟨false,none,0,[]⟩):=by
 refine List.ext_getElem? fun i=> ?_;by_cases hi:i<n*2
 ·have h1:(madeCells (Value.agg #[.bool false,.slice none 0 0]).cells (n*2)).toList[i]? =some ((#[Value.bool false,Value.slice none 0 0]:Array Value)[i % 2]!):=by
   unfold madeCells;rw[Array.getElem?_toList,Array.getElem?_map,Array.getElem?_range,Xb hi];rfl
  rw[h1];have hr:(List.replicate n (⟨false,none,0,[]⟩:zr))[i / 2]? =some ⟨false,none,0,[]⟩:=by rw[Wm,Xb (by omega)]
  have h2:=Zo (f:=ZW) (k:=2) (fun _=>rfl) (List.replicate n ⟨false,none,0,[]⟩) (i / 2) (i % 2) ⟨false,none,0,[]⟩ hr (Nat.mod_lt _ (by decide));have h3:i / 2*2+i % 2=i:=by omega
  rcases Nat.mod_two_eq_zero_or_one i with e|e
  ·rw[e]at h2;rw[e];rw[show i / 2*2+0=i by omega]at h2;exact h2.symm
  ·rw[e]at h2;rw[e];rw[show i / 2*2+1=i by omega]at h2;exact h2.symm
 ·rw[Xv (by rw[Array.length_toList,size_madeCells];omega),Xv (by rw[qrw,Wj];omega)]
theorem qod{w:World}{base g n:Nat}{xs:List Value}{T:TypeId}(h:w.ownsRow base T 2 (.slice (some ⟨g,0,none⟩) n n) n xs):zd w g xs T:=by
 obtain⟨h0,h1⟩:=h;rcases h1 with⟨h1,_⟩|⟨g',cap,cur,h1,_,hh,_,_,hs,hx⟩
 ·cases h1
 ·injection h1 with e1 e2 e3;simp at e1;subst e1 e3;have hc:cur.toList=xs:=by rw[←hx,XK (by rw[Array.length_toList,hs];exact zn _)]
  unfold zd;rw[hh,←hc]
theorem qoj{w:World}{g n:Nat}{X:List zr}(h:qS w g (⟨false,none,0,[]⟩::X)):qS (w.setCell ⟨g,0,none⟩ (.bool true)) g (⟨true,none,0,[]⟩::X):=by
 have hz:(w.setCell ⟨g,0,none⟩ (.bool true)).heap.size=w.heap.size:=by simp
 refine⟨h.blk.set 0 _,fun y hy=> ?_⟩;rcases XA.mp hy with q|q
 ·rw[q];exact kv
 ·have hs:=h.row y (XF _ q);exact q1a hs (by rw[hz];exact zn _) (fun p hp=>World.cell?_setCell_far _ _ _ _ (fun e=>hp e.symm)) (fun j hj=>h.ty_apart hs hj)
def Ys(XS:List (Nat×List zr)):List Value:=XS.map fun p=> .slice (some ⟨p.1,0,none⟩) p.2.length p.2.length
structure Qm(w:World)(v:Value)(XS:List (Nat×List zr)):Prop where
 outs:∀p ∈XS,qS w p.1 p.2
 apart:∀p ∈XS,¬v.ownBlock=some p.1
 diff:(XS.map Prod.fst).Nodup
 dry:Dry w v
theorem Qm.nil(w:World)(T:TypeId):Qm (w.alloc (.cells #[] T)) (.slice (some ⟨w.heap.size,0,none⟩) 0 0) []:=
 ⟨fun _ h=>by simp at h,fun _ h=>by simp at h,by simp,qpx w T⟩
theorem Qm.below{w w':World}{v:Value}{XS:List (Nat×List zr)}(h:Qm w v XS)(hv:∀g,v.ownBlock=some g→g<w.heap.size)(hb:Below w.heap.size w w'):Qm w' v XS:=
 ⟨fun p hp=>(h.outs p hp).keep hb,h.apart,h.diff,h.dry.below hv hb⟩
theorem qS.grown{w w3:World}{v:Value}{g:Nat}{X:List zr}(h:qS w g X)(hd:Dry w v)(ha:¬v.ownBlock=some g)(hg:w.grownBy w3 v.ownBlock):qS w3 g X:=by
 have hlt:=h.blk.lt;refine⟨?_,fun x hx=> ?_⟩
 ·have hb:=h.blk;unfold zd at hb⊢
  rw[hg.block g hlt (fun e=>ha e.symm)];exact hb
 ·have hs:=h.row x hx;refine⟨hs.le,hs.cap,fun i t hi=> ?_⟩;obtain⟨ad,e,hb,h0,h1⟩:=hs.row i t hi;have hn:¬some ad.block=v.ownBlock:=fun q=>hd ad.block q.symm (ad.add (i*2)) (zu _ _) _ _ h0;have hk:∀q:Addr,q.block=ad.block→w3.cell? q=w.cell? q:=fun q hq=>XX (by rw[hq];exact hg.block _ hb hn);exact⟨ad,e,Xj hb hg.size,(hk _ (zu _ _)).trans h0,(hk _ (by show(ad.add _).block=_;rw[zu])).trans h1⟩
theorem Qm.snoc{w w3:World}{v:Value}{XS:List (Nat×List zr)}{g g9 n k:Nat}{X:List zr}(h:Qm w v XS)(hX:qS w g X)(hg0:∀p ∈XS,p.1<g)(hgv:∀b,v.ownBlock=some b→b<g)
  (hg:w.grownBy w3 v.ownBlock) (hor:v.ownBlock=some g9∨w.heap.size≤g9) (hd:Dry w3 (.slice (some ⟨g9,0,none⟩) n k)):Qm w3 (.slice (some ⟨g9,0,none⟩) n k) (XS++[(g,X)]):=by
 have hgn:¬v.ownBlock=some g:=fun e=>Nat.lt_irrefl _ (hgv g e);refine⟨fun p hp=> ?_,fun p hp e=> ?_,?_,hd⟩
 ·rcases Xn.mp hp with q|q
  ·exact(h.outs p q).grown h.dry (h.apart p q) hg
  ·simp at q;subst q;exact hX.grown h.dry hgn hg
 ·simp[Value.ownBlock]at e;have hlt:p.1<w.heap.size:=by
   rcases Xn.mp hp with q|q
   ·exact(h.outs p q).blk.lt
   ·simp at q;subst q;exact hX.blk.lt
  rcases hor with o|o
  ·rcases Xn.mp hp with q|q
   ·exact h.apart p q (by rw[o,e])
   ·simp at q;subst q;exact hgn (by rw[o,e])
  ·omega
 ·rw[XY,List.nodup_append];refine⟨h.diff,by simp,fun a ha b hb=> ?_⟩;simp at hb;subst hb;obtain⟨p,hp,rfl⟩:=XW.mp ha;have:=hg0 p hp;omega
theorem qhp:(Tryz.prog.info? 73).map (fun i=>(i.zero,i.size,i.bytes))=some (some (.slice none 0 0),1,24):=by kernel_rfl
theorem quu{w:World}{g:Nat}{X:List zr}(h:qS w g X)(hl:X.length≤1000000):ze jK 2 w w.heap.size (some ⟨g,0,none⟩) X.length (X.map zr.shp):=
 ⟨by rw[Xo];exact zn _,by omega,fun i s hi=>by
  rw[XB]at hi;rcases Xk i X.length with q|q
  ·rw[Xc q]at hi;simp at hi;subst hi;have ea:(Addr.add ⟨g,0,none⟩ (i*2))=⟨g,i*2,none⟩:=by
    unfold Addr.add;split
    ·rename_i h0;rw[h0]
    ·simp
   refine⟨_,rfl,h.blk.lt,?_⟩;rw[ea];exact⟨h.seen_at q,X[i].A,X[i].c,h.stack_at q,h.row _ (Xf q)⟩
  ·rw[Xv q]at hi;cases hi⟩
def QD(XS:List (Nat×List zr)):List (List zo):=XS.map fun p=>p.2.map zr.shp
theorem qvl{w:World}{B e n c:Nat}{A:Option Addr}{XS:List (Nat×List zr)}(ho:w.ownsRow B e 1 (.slice A n c) n (Ys XS))(hn:XS.length=n)(h:∀p ∈XS,qS w p.1 p.2)(hl:∀p ∈XS,p.2.length≤1000000):
  ze (zI jK 2) 1 w w.heap.size A c (QD XS):=by
 have hm:(QD XS).length=n:=by unfold QD;rw[Xo];exact hn
 rcases Zk ho with⟨e1,hz⟩|⟨g,c',e1,h1,h2⟩
 ·injection e1 with e1 e2 e3;subst e1 e3;have:QD XS=[]:=X6 (by omega);rw[this];exact⟨zn _,by omega,qv.nil⟩
 ·injection e1 with e1 e2 e3;subst e1 e3;obtain⟨hb,hc⟩:=YO ho;refine⟨by rw[hm];exact h1,h2,fun i S hi=> ?_⟩;unfold QD at hi;rw[XB]at hi;rcases Xk i XS.length with q|q
  ·rw[Xc q]at hi;simp at hi;subst hi;have hv:(Ys XS)[i]? =some (.slice (some ⟨XS[i].1,0,none⟩) XS[i].2.length XS[i].2.length):=by unfold Ys;rw[XB,Xc q];rfl
   obtain⟨c0,hg⟩:=hc i _ hv;have ea:(Addr.add ⟨g,0,none⟩ (i*1))=⟨g,i,none⟩:=by
    unfold Addr.add;split
    ·rename_i h0;simp at h0;rw[h0]
    ·simp
   refine⟨_,rfl,hg,_,_,?_,quu (h _ (Xf q)) (hl _ (Xf q))⟩;rw[ea,Xo];exact c0
  ·rw[Xv q]at hi;cases hi
theorem qS.far{w:World}{g g':Nat}{X X':List zr}{p:Addr}(v:Value)(h':qS w g' X')(h:qS w g X)(hp:p.block=g')(hg:¬g=g'):qS (w.setCell p v) g X:=by
 have hz:(w.setCell p v).heap.size=w.heap.size:=by simp
 have hf:∀q:Addr,q.block≠g'→(w.setCell p v).cell? q=w.cell? q:=fun q hq=>World.cell?_setCell_far _ _ _ _ (fun e=>hq (by rw[←e];exact hp));refine⟨?_,fun x hx=>q1a (h.row x hx) (by rw[hz];exact zn _) hf (fun j hj=>h'.ty_apart (h.row x hx) hj)⟩;have hb:=h.blk;unfold zd at hb⊢
 rw[heap_setCell_other w p g v (fun e=>hg (by rw[e];exact hp))];exact hb
def jy(m:za)(w:World)(A:Option Addr)(c:Nat)(l:List (List zo)):Prop:=ze (zI jK 2) 1 w w.heap.size A c l∧kW 64 l∧l.length=m.methods.length∧∀(i:Nat) S,l[i]? =some S→Jh m (i:Int) S
theorem vM{α:Type}{At:AtP α}(hK:vm At){k:Nat}{w w':World}{A:Option Addr}{c:Nat}{l:List α}(h:ze At k w w.heap.size A c l)(hb:Below w.heap.size w w'):ze At k w' w'.heap.size A c l:=
 (h.below_to hK hb (zn _)).keep' hK hb.size (fun _ _=>rfl)
theorem q1g{c:Prop}[Decidable c]{A B:List (Int×Int)}{n:Nat}(hA:c→A.length≤n)(hB:¬c→B.length≤n):(if c then A else B).length≤n:=by
 by_cases g:c
 ·rw[Xb g];exact hA g
 ·rw[Xa g];exact hB g
theorem qrn{m:za}{x:zh}{f:Nat}{op a b:Int}(hm:zN m)(hg:m.methods[f]? =some x)(hi:qf op a b=true)(hn:zZ m x op a b=true):(vu m x op a b).length≤1000:=by
 obtain⟨o0,o1,a0,a1,b0,b1⟩:=Qr hi;unfold vu;iterate 13 refine q1g (fun _=>(by simp)) (fun _=> ?_)
 refine q1g (fun _=>Xd (q8s x) (by decide)) (fun _=> ?_);refine q1g (fun h=> ?_) (fun _=> ?_)
 ·subst h;have h1:=VI hn;have h2:a.toNat<m.methods.length:=by omega
  have h3:zw m a ∈m.methods:=by unfold zw;rw[Xc h2];exact Xf h2
  have:=(hm.method h3).all;omega
 refine q1g (fun h=> ?_) (fun _=> ?_)
 ·subst h;obtain⟨_,k,y,hk,hy,_⟩:=VH hm a0 b0 hn;have h3:zw m (kY m a b)=y:=by unfold zw kY;rw[hk,Wb,Xi,hy];rfl
  rw[h3,XJ,XT];have:=(hm.method (Xs hy)).all;omega
 exact q1g (fun _=>(by simp)) (fun _=>(by simp))
def Vg(r:QK)(w:World)(e:Ending)(w':World):Prop:=
 ∃A c A' c',e= .returned (.tuple #[.slice A r.after.length c,.slice A' r.next.length c',.int .i64 r.err])∧ze zc 2 w' w'.heap.size A c r.after∧ze zl 1 w' w'.heap.size A' c' r.next∧(∀ad,A=some ad→w.heap.size≤ad.block)∧(∀ad,A'=some ad→w.heap.size≤ad.block)∧Below w.heap.size w w'
theorem Vg.is{r:QK}{w w':World}{e:Ending}(h:Vg r w e w'):qfb r w e w':=by
 obtain⟨A,c,A',c',h1,h2,h3,_,_,h6⟩:=h;exact⟨A,c,A',c',h1,h2,h3,h6⟩
theorem q12(n:Int){w w':World}(hb:Below w.heap.size w w'):Vg (jf n) w (.returned (.tuple #[.slice none 0 0,.slice none 0 0,.int .i64 n])) w':=
 ⟨none,0,none,0,rfl,⟨zn _,by omega,fun i t hi=>by simp[jf]at hi⟩,⟨zn _,by omega,fun i t hi=>by simp[jf]at hi⟩,(fun ad e=>by cases e),(fun ad e=>by cases e),hb⟩
theorem own_at{w:World}{B e n:Nat}{A:Option Addr}{m c:Nat}{xs:List Value}{k:Nat}(h:w.ownsRow B e k (.slice A m c) n xs):∀ad,A=some ad→B≤ad.block:=fun ad ea=>by
 subst ea;have:=(h.lt ad.block rfl).1;exact this
theorem qky(m:za)(f pc:Int)(st:List (Int×Int))(A:Option Addr)(cap:Nat)(h:zi)(w:World)(H:zm w w.heap.size h m)(hf:f<0∨(m.methods.length:Int)≤f):
  Calls Tryz.prog 90 #[zp h m,.int .i64 f,.int .i64 pc,.slice A st.length cap] w (Vg (zR m f pc st) w):=by
 have e0:zR m f pc st=jf 1:=by unfold zR;rw[Xa (by omega)]
 rw[e0];have hle:=H.methods.le;have hcap:=H.methods.cap;have HF:=zH hf;have hpc:pc<0∨((0:Nat):Int)≤pc:=by omega
 have HPC:=zH hpc;have HW:=zH ((zb w.heap.size w).alloc (zn _) (zg h m));have HBX:=zH (ql w h m);clear H e0 hf hpc;go_enter Tryz.func90,Tryz.ntmps90;go_upto_region 1 with fail
 generalize w.alloc (zg h m)=w1 at*
 obtain⟨q0,q1,q2,q3,q4,q5,q6⟩:=HBX.out;go_upto_region 2 with(go_at_call 134;(with_reducible refine(qld f m.methods.length h.c3 h.A3 w1 (by omega) HF.out).mono ?_);rintro e w2 ⟨rfl,hb⟩;have HB2:=zH hb;clear hb)
 have HC:=zH (qr w2 [.slice none 0 0,.slice none 0 0,.int .i64 0,.int .i64 0,.slice none 0 0,.int .i64 0,.int .i64 0,.slice none 0 0] 53);have HB3:Hid (Below w1.heap.size w1 (w2.alloc (.cells ([.slice none 0 0,.slice none 0 0,.int .i64 0,.int .i64 0,.slice none 0 0,.int .i64 0,.int .i64 0,.slice none 0 0]:List Value).toArray 53))):=zH (HB2.out.alloc HB2.out.size _);change Code.wp _ _ _ _ (w2.alloc (.cells ([.slice none 0 0,.slice none 0 0,.int .i64 0,.int .i64 0,.slice none 0 0,.int .i64 0,.int .i64 0,.slice none 0 0]:List Value).toArray 53));generalize w2.alloc (.cells ([.slice none 0 0,.slice none 0 0,.int .i64 0,.int .i64 0,.slice none 0 0,.int .i64 0,.int .i64 0,.slice none 0 0]:List Value).toArray 53)=w3 at*
 have c4:=HC.out 4 _ rfl;go_wp2_with(go_at_call 135;(with_reducible refine(qc3 pc 0 0 none w3 (by omega) HPC.out).mono ?_);rintro e w4 ⟨rfl,hb⟩;have HB4:=zj HB3 hb;clear hb)
 go_ret3
 exact q12 1 (HW.out.trans ((HB4.out.alloc HB4.out.size _).mono HW.out.size))
theorem qkx(m:za)(x:zh)(F:Nat)(pc:Int)(st:List (Int×Int))(A:Option Addr)(cap:Nat)(h:zi)(w:World)(H:zm w w.heap.size h m)(hx:m.methods[F]? =some x)(hp:pc<0∨(x.code.length:Int)≤pc):
  Calls Tryz.prog 90 #[zp h m,.int .i64 F,.int .i64 pc,.slice A st.length cap] w (Vg (zR m F pc st) w):=by
 have e0:zR m F pc st=jf 1:=by
  unfold zR zw;rw[Xi,hx,Wb,Xa (by omega)]
 rw[e0];have HP:=zH hp;have HG:=zH hx;have HW:=zH ((zb w.heap.size w).alloc (zn _) (zg h m));have HI:=zH (H.now HW.out);have HBX:=zH (ql w h m);clear H e0 hp hx;go_enter Tryz.func90,Tryz.ntmps90;go_upto_region 1 with fail
 generalize w.alloc (zg h m)=w1 at*
 obtain⟨q0,q1,q2,q3,q4,q5,q6⟩:=HBX.out;have HX0:Hid (Below w1.heap.size w1 w1):=zH (zb _ _);go_upto_region 2 with(go_at_call 134;(with_reducible refine(VR HI HX0 HG.out).mono ?_);rintro e w2 ⟨hn,rfl,hmi,hb⟩;have HM2:=zH hmi;have HB2:=zH hb;clear hmi hb)
 have hc1:=HM2.out.code.le;have hc2:=HM2.out.code.cap;have HC:=zH (qr w2 (qb hn x) 53);have HB3:Hid (Below w1.heap.size w1 (w2.alloc (.cells (qb hn x).toArray 53))):=zH (HB2.out.alloc HB2.out.size _);generalize w2.alloc (.cells (qb hn x).toArray 53)=w3 at*
 have c4:=HC.out 4 _ rfl;go_wp2_with(go_at_call 135;(with_reducible refine(qc3 pc x.code.length hn.k4 hn.A4 w3 (by omega) HP.out).mono ?_);rintro e w4 ⟨rfl,hb⟩;have HB4:=zj HB3 hb;clear hb)
 go_ret3
 exact q12 1 (HW.out.trans ((HB4.out.alloc HB4.out.size _).mono HW.out.size))
set_option maxHeartbeats 3200000 in
theorem qt7(m:za)(x:zh)(F P:Nat)(op a b:Int)(st:List (Int×Int))(A:Option Addr)(cap:Nat)(h:zi)(w:World)(H:zm w w.heap.size h m)(hm:zN m)(hx:m.methods[F]? =some x)(hin:qf op a b=true)(hna:zZ m x op a b=true)
  (hi:x.code[P]? =some (op,a,b)) (hst:ze zc 2 w w.heap.size A cap st) (hs:st.length≤4000) (r:QK) (hr:qX m x P op a b st=r):
  Calls Tryz.prog 90 #[zp h m,.int .i64 F,.int .i64 P,.slice A st.length cap] w (Vg r w):=by
 have HR:=zH hr.symm;have hxm:=hm.method (Xs hx);have HFI:=zH hi;have HG:=zH hx;have HN:=zH (And.intro hin hna);have hcl:m.classes.length≤1000:=by have:=hm.fits.cl;omega
 have hP:P<x.code.length:=by
  rcases Xk P x.code.length with g|g
  ·exact g
  ·rw[Xv g]at hi;cases hi
 have hPm:P≤1000000:=by have:=hxm.fits.cl;omega
 obtain⟨NL,hNL⟩:∃NL,qU (P:Int) op a=NL:=⟨_,rfl⟩
 obtain⟨W,hW⟩:∃W,zE m x op a b=W:=⟨_,rfl⟩
 have HNL:=zH hNL;have HWL:=zH hW;have hWl:W.length≤1000:=by
  rw[←hW,qmt hm hx hin hna];split
  ·omega
  ·exact qrn hm hx hin hna
 obtain⟨d,hd⟩:∃d,st.length - W.length=d:=⟨_,rfl⟩
 have HD:=zH hd;obtain⟨RS,hRS⟩:∃RS,st.take d=RS:=⟨_,rfl⟩
 obtain⟨TK,hTK⟩:∃TK,st.drop d=TK:=⟨_,rfl⟩
 obtain⟨GV,hGV⟩:∃GV,zV m x op a b TK=GV:=⟨_,rfl⟩
 have hTl:TK.length≤1000:=by rw[←hTK,XT];omega
 have hRl:RS.length≤4000:=by rw[←hRS,XO];omega
 have hGl:GV.length≤1000∨op=6:=by
  by_cases h6:op=6
  ·exact .inr h6
  ·refine .inl ?_;rw[←hGV];unfold zV;rw[Xa h6];have:=qkv m x op a b;omega
 obtain⟨AF,hAF⟩:∃AF,RS++GV=AF:=⟨_,rfl⟩
 have HAF:=zH hAF;have HGV:=zH hGV;have HRS:=zH hRS;have HTK:=zH hTK;obtain⟨r1,hr1⟩:∃r,ZZ x.code.length NL=r:=⟨_,rfl⟩
 obtain⟨r2,hr2⟩:∃r,QX (zz m.classes) TK W=r:=⟨_,rfl⟩
 have HR1:=zH hr1;have HR2:=zH hr2;have HE1:Hid (r1=true→r=jf 4):=zH (fun g=>by rw[←hr];exact qrr hna (by rw[hNL,hr1,g]));have HE2:Hid (r1=false→r=if r2=true then(if 8<AF.length then jf 4 else⟨AF,NL,0⟩)else jf 4):=zH (fun g=>by
  rw[←hr,qn9 hm hx hin hna (by rw[hNL,hr1,g]),hW,hNL];unfold q2u;rw[hd,hTK,hRS,hGV,hAF,hr2])
 have h2:=H.methods.le;have hGl2:r2=true→GV.length≤1000:=fun g=>by
  rcases hGl with q|q
  ·exact q
  ·subst q;have e1:W=[(6,0)]:=by rw[←hW];simp[zE]
   rw[←hr2]at g;unfold QX at g;rw[Xr,Xt,e1]at g;have e2:GV=TK++TK:=by rw[←hGV];unfold zV;rw[Xb rfl]
   rw[e2,Xe,g.1];decide
 have HGL:=zH hGl2;have HW0:=zH ((zb w.heap.size w).alloc (zn _) (zg h m));have HI:=zH (H.now HW0.out);have HBX:=zH (ql w h m);have HZ1:Hid (w.heap.size<(w.alloc (zg h m)).heap.size):=zH (by simp);have HST:=zH (vM zc.keeps hst HW0.out);clear H hr hNL hW hd hRS hTK hGV hAF hr1 hr2 hGl hGl2 hin hna hi hx hst hxm hP;go_enter Tryz.func90,Tryz.ntmps90;go_upto_region 1 with fail
 generalize w.alloc (zg h m)=w1 at*
 obtain⟨q0,q1,q2,q3,q4,q5,q6⟩:=HBX.out;have HX0:Hid (Below w1.heap.size w1 w1):=zH (zb _ _);go_upto_region 2 with(go_at_call 134;(with_reducible refine(VR HI HX0 HG.out).mono ?_);rintro e w2 ⟨hn,rfl,hmi,hb⟩;have HM2:=zH hmi;have HB2:=zH hb;clear hmi hb)
 have HC:=zH (qr w2 (qb hn x) 53);have HA:Hid (Below w2.heap.size w2 (w2.alloc (.cells (qb hn x).toArray 53))):=zH ((zb _ _).alloc (zn _) _);have HZ3:Hid (w2.heap.size<(w2.alloc (.cells (qb hn x).toArray 53)).heap.size):=zH (by simp);have HM3:=zH (HM2.out.now HA.out);have HB3:=zH (HB2.out.trans (HA.out.mono HB2.out.size));generalize w2.alloc (.cells (qb hn x).toArray 53)=w3 at*
 have c4:=HC.out 4 _ rfl;go_upto_region 3 with(go_at_call 135;(with_reducible refine(qpv HM3.out.code HFI.out).mono ?_);rintro e w4 ⟨rfl,hb⟩;have HY4:=zH hb;have HB4:=zj HB3 hb;clear hb)
 have HC5:=zH (qr w4 [.int .i64 op,.int .i64 a,.int .i64 b] 55);have HZ5:Hid (w4.heap.size<(w4.alloc (.cells #[.int .i64 op,.int .i64 a,.int .i64 b] 55)).heap.size):=zH (by simp);have HY5:Hid (Below w3.heap.size w3 (w4.alloc (.cells #[.int .i64 op,.int .i64 a,.int .i64 b] 55))):=zH (HY4.out.alloc HY4.out.size _);have HB5:Hid (Below w1.heap.size w1 (w4.alloc (.cells #[.int .i64 op,.int .i64 a,.int .i64 b] 55))):=zH (HB4.out.alloc HB4.out.size _);clear q0 q1 q2 q3 q4 q5 q6 c4;generalize w4.alloc (.cells #[.int .i64 op,.int .i64 a,.int .i64 b] 55)=w5 at*
 have HC3:=zH (HC.out.keep HY5.out HZ3.out);have HBX5:=zH (HBX.out.keep HB5.out HZ1.out);have HI5:=zH (HI.out.now HB5.out);have HST5:=zH (vM zc.keeps HST.out HB5.out);have HM5:Hid (w2.heap.size<w5.heap.size):=zH (Xj HZ3.out HY5.out.size);have HN5:Hid (w.heap.size<w5.heap.size):=zH (Xj HZ1.out HB5.out.size);have HW5:=zH (HW0.out.trans (HB5.out.mono HW0.out.size));clear HC HM2 HB2 HM3 HB3 HA HB4 HY4 HY5 HBX HI HST HB5 HX0;obtain⟨o0,o1,o2⟩:=qw HC5.out;go_upto_region 6 with(go_at_call 136;(with_reducible refine(qpq HNL hPm).mono ?_);rintro e w6 ⟨An,cn,rfl,hs6,hna,hb⟩;have HX6:=zH hb;have HS6:=zH hs6;have HNA:=zH hna;clear hs6 hb hna)
 have d4:=(HC3.out.keep HX6.out HM5.out) 4 _ rfl;cases r1
 ·have HX6':=HX6;go_upto_region 8 with(go_at_call 137;(with_reducible refine(qa2 HS6.out HR1).mono ?_);rintro e w7 ⟨rfl,hb⟩;have HX7:=zj HX6 hb;have HS7:=zH (vM zl.keeps HS6.out hb);clear hb)
  clear o0 o1 o2 d4;obtain⟨o0,o1,o2⟩:=qw (HC5.out.keep HX7.out HZ5.out);obtain⟨q0,q1,q2,q3,q4,q5,q6⟩:=HBX5.out.keep HX7.out HN5.out;go_upto_region 9 with(go_at_call 138;(with_reducible refine(qpi HI5 HX7 hm HG HN HWL).mono ?_);rintro e w8 ⟨Aw,cw,rfl,hs8,hb⟩;have HX8:=zj HX7 hb;have HS8:=zH (vM zl.keeps HS7.out hb);have HWS8:=zH hs8;clear hb hs8)
  have HST8:=zH (vM zc.keeps HST5.out HX8.out);go_upto_region 10 with(go_at_call 139;(with_reducible refine(qte st W.length (by omega) (by omega) A cap _ HST8.out).mono ?_);rintro e w9 ⟨A1,c1,A2,c2,rfl,hs1,hs2,hb,hh⟩;rw[HD.out]at*;rw[HRS.out]at*;rw[HTK.out]at*;have HX9:=zj HX8 hb;have HS9:=zH (vM zl.keeps HS8.out hb);have HWS9:=zH (vM zc.keeps HWS8.out hb);have HRS9:=zH (vM zc.keeps hs1 hb);have HTK9:=zH (vM zc.keeps hs2 hb);clear hb hs1 hs2 hh)
  clear q0 q1 q2 q3 q4 q5 q6 o0 o1 o2;obtain⟨q0,q1,q2,q3,q4,q5,q6⟩:=HBX5.out.keep HX9.out HN5.out;cases r2
  ·go_wp2_with(go_at_call 140;(with_reducible refine(qa4 HI5 HX9 hcl HTK9.out HWS9.out HR2).mono ?_);rintro e w10 ⟨rfl,hb⟩;have HX10:=zj HX9 hb;have HS10:=zH (vM zl.keeps HS9.out hb);have HRS10:=zH (vM zc.keeps HRS9.out hb);have HTK10:=zH (vM zc.keeps HTK9.out hb);clear hb)
   go_ret3
   rw[HE2.out (by simp),Xa (by simp)];exact q12 4 (HW5.out.trans (HX10.out.mono HW5.out.size))
  ·go_upto_region 12 with(go_at_call 140;(with_reducible refine(qa4 HI5 HX9 hcl HTK9.out HWS9.out HR2).mono ?_);rintro e w10 ⟨rfl,hb⟩;have HX10:=zj HX9 hb;have HS10:=zH (vM zl.keeps HS9.out hb);have HRS10:=zH (vM zc.keeps HRS9.out hb);have HTK10:=zH (vM zc.keeps HTK9.out hb);clear hb)
   clear q0 q1 q2 q3 q4 q5 q6;obtain⟨o0,o1,o2⟩:=qw (HC5.out.keep HX10.out HZ5.out);obtain⟨q0,q1,q2,q3,q4,q5,q6⟩:=HBX5.out.keep HX10.out HN5.out;have hGl:=HGL.out (by simp);go_upto_region 13 with(first
    |(go_at_call 142;(with_reducible refine(qps HI5 HX10 hm HG HN HGV hTl HTK10.out).mono ?_);rintro e w11 ⟨Ag,cg,rfl,hsg,hb⟩;have HX11:=zj HX10 hb;have HS11:=zH (vM zl.keeps HS10.out hb);have HRS11:=zH (vM zc.keeps HRS10.out hb);have HGV11:=zH hsg;clear hb hsg)
    |(go_at_call 141;(with_reducible refine(qgo (g:=w11.heap.size) HAF (q0t HRS11.out _) (q0t HGV11.out _) (by simp) (qr w11 [.slice A1 RS.length c1,.slice Ag GV.length cg] 23) hRl hGl).mono ?_);rintro e w12 ⟨v12,rfl,ho,hb⟩;have hb':=((zb w11.heap.size w11).alloc (zn _) (.cells #[.slice A1 RS.length c1,.slice Ag GV.length cg] 23)).trans (hb.mono (by simp));obtain⟨Af,cf,rfl,hsf,_⟩:=YN ho;have HFA:=zH (own_at ho);have HX12:=zH (HX11.out.trans (hb'.mono HX11.out.size));have HS12:=zH (vM zl.keeps HS11.out hb');have HAF12:=zH hsf;clear hb hb' ho hsf))
   by_cases h8:8<AF.length
   ·have h8':(AF.length:Int)>8:=by omega
    have H8:=zH h8;go_wp2_with fail
    go_ret3
    rw[HE2.out (by simp),Xb trivial,Xb H8.out];exact q12 4 (HW5.out.trans (HX12.out.mono HW5.out.size))
   ·have h8':¬(AF.length:Int)>8:=by omega
    have H8:=zH h8;go_wp2_with fail
    go_ret3
    rw[HE2.out (by simp),Xb trivial,Xa H8.out];exact⟨_,_,_,_,rfl,HAF12.out,HS12.out,fun ad ea=>Xd (Xd (Xd HW5.out.size HX11.out.size) (by simp)) (HFA.out ad ea),fun ad ea=>Xd HW5.out.size (HNA.out ad ea),HW5.out.trans (HX12.out.mono HW5.out.size)⟩
 ·go_wp2_with(go_at_call 137;(with_reducible refine(qa2 HS6.out HR1).mono ?_);rintro e w7 ⟨rfl,hb⟩;have HX7:=zj HX6 hb;clear hb)
  go_ret3
  rw[HE1.out (by simp)];exact q12 4 (HW5.out.trans (HX7.out.mono HW5.out.size))
theorem qbz(m:za)(f pc:Int)(st:List (Int×Int))(A:Option Addr)(cap:Nat)(h:zi)(w:World)(H:zm w w.heap.size h m)(hm:zN m)(hst:ze zc 2 w w.heap.size A cap st)(hs:st.length≤4000):
  Calls Tryz.prog 90 #[zp h m,.int .i64 f,.int .i64 pc,.slice A st.length cap] w (Vg (zR m f pc st) w):=by
 by_cases f0:f<0∨(m.methods.length:Int)≤f
 ·exact qky m f pc st A cap h w H f0
 obtain⟨F,rfl⟩:=Xq (show 0≤f by omega);have hF:F<m.methods.length:=by omega
 obtain⟨x,hx⟩:∃x,m.methods[F]? =some x:=⟨_,Xc hF⟩
 by_cases p0:pc<0∨(x.code.length:Int)≤pc
 ·exact qkx m x F pc st A cap h w H hx p0
 obtain⟨P,rfl⟩:=Xq (show 0≤pc by omega);have hP:P<x.code.length:=by omega
 obtain⟨⟨op,a,b⟩,hi⟩:∃i,x.code[P]? =some i:=⟨_,Xc hP⟩
 have e:zR m (F:Int) (P:Int) st=qX m x P op a b st:=by
  unfold zR zw;rw[Xi,hx,Wb,Xb ⟨by omega,by omega,by omega,by omega⟩,Xi,hi]
 rw[e];have hxm:=hm.method (Xs hx);have him:=Xs hi;exact qt7 m x F P op a b st A cap h w H hm hx (hxm.fits.ct _ him) (hxm.co _ him) hi hst hs _ rfl
def QC(m:za)(f:Nat)(S:List zo)(pc:Nat):List Int:=if vZ m f S pc=[]then [-1]else vZ m f S pc
def Zu(m:za)(f:Nat)(x:zh)(S:List zo)(pc:Nat):List (Int×Int×Int):=if(zt S (pc:Int)).seen=true then(QC m f S pc).map fun q=>((pc:Int),q,Zw m x pc)else []
def vV(m:za)(f:Nat)(x:zh)(S:List zo):Nat→List (Int×Int×Int)
 |0=> []
 |pc+1=>vV m f x S pc++Zu m f x S pc
def Qf(m:za)(l:List (List zo))(f:Nat):List (Int×Int×Int):=vV m f (zw m (f:Int)) (l[f]?.getD []) (zw m (f:Int)).code.length
theorem qcj{m:za}{f:Nat}{x:zh}{S:List zo}{t:Int×Int×Int}:∀{n:Nat},t ∈vV m f x S n→∃pc:Nat,pc<n∧t ∈Zu m f x S pc
 |0,h=>nomatch h
 |n+1,h=>by
  rcases Xn.mp h with q|q
  ·obtain⟨pc,h1,h2⟩:=qcj q;exact⟨pc,by omega,h2⟩
  ·exact⟨n,by omega,q⟩
theorem qjq{m:za}{f:Nat}{x:zh}{S:List zo}{pc:Nat}{t:Int×Int×Int}(h:t ∈Zu m f x S pc):(zt S (pc:Int)).seen=true∧t.1=(pc:Int)∧t.2.2=Zw m x pc∧t.2.1 ∈QC m f S pc:=by
 unfold Zu at h;split at h
 ·rename_i hs;obtain⟨q,hq,rfl⟩:=XW.mp h;exact⟨hs,rfl,rfl,hq⟩
 ·cases h
theorem qjr(m:za)(f:Nat)(x:zh)(S:List zo)(pc:Nat)(h:(vZ m f S pc).length≤2):(Zu m f x S pc).length≤2:=by
 unfold Zu QC;split
 ·rw[Xo];split
  ·exact(show 1≤2 by omega)
  ·exact h
 ·exact Xp _
theorem q61(m:za)(f:Nat)(x:zh)(S:List zo)(h:∀pc,(vZ m f S pc).length≤2):∀n,(vV m f x S n).length≤2*n
 |0=>zn _
 |n+1=>by
  have h1:=q61 m f x S h n;have h2:=qjr m f x S n (h n);show(vV m f x S n++Zu m f x S n).length≤_;rw[Xe];omega
theorem qsh(m:za)(f pc:Int)(st:List (Int×Int)):(zR m f pc st).next.length≤2:=by
 have h0:∀e,(jf e).next.length≤2:=fun e=>Xp _;have h1:∀pc op a:Int,(qU pc op a).length≤2:=fun pc op a=>by
  unfold qU;split
  ·exact(show 1≤2 by omega)
  ·split
   ·exact(show 2≤2 by omega)
   ·split
    ·exact Xp _
    ·exact(show 1≤2 by omega)
 unfold zR;split
 ·split
  ·unfold qX;split
   ·exact h0 _
   ·split
    ·exact h0 _
    ·split
     ·exact h1 _ _ _
     ·exact h0 _
  ·exact h0 _
 ·exact h0 _
theorem q4w(m:za)(f:Nat)(S:List zo)(pc:Nat):(vZ m f S pc).length≤2:=qsh ..
theorem qbg{m:za}{f pc:Nat}{x:zh}{op a b:Int}{st:List (Int×Int)}(hx:m.methods[f]? =some x)(hi:x.code[pc]? =some (op,a,b))(he:(zR m (f:Int) (pc:Int) st).err=0):(zR m (f:Int) (pc:Int) st).next=qU (pc:Int) op a:=by
 have e1:=q14 (st:=st) hx hi;rw[e1]at he⊢
 unfold qX at he⊢
 split
 ·rename_i h;rw[Xb h]at he;exact absurd he (by decide)
 ·rename_i h;rw[Xa h]at he;split
  ·rename_i h2;rw[Xb h2]at he;exact absurd he (by decide)
  ·rename_i h2;rw[Xa h2]at he;split
   ·rfl
   ·rename_i h3;rw[Xa h3]at he;exact absurd he (by decide)
theorem q4x{pc op a:Int}:qU pc op a=[]↔op=33:=by
 unfold qU;by_cases h1:op=18
 ·subst h1;simp
 ·rw[Xa h1];by_cases h2:op=19
  ·subst h2;simp
  ·rw[Xa h2];by_cases h3:op=33
   ·rw[Xb h3];simp[h3]
   ·rw[Xa h3];simp[h3]
theorem qtk(m:za)(a b:Int):kd m 33 a b=0:=rfl
theorem que{m:za}{l:List (List zo)}{f:Nat}{x:zh}{S:List zo}(hm:zN m)(hx:m.methods[f]? =some x)(hS:l[f]? =some S)(hF:Jh m (f:Int) S):q7m (Qf m l f) x.code.length:=by
 have hxN:zw m (f:Int)=x:=by unfold zw;rw[Xi,hx];rfl
 have hxm:=Xs hx;have key:∀t ∈Qf m l f,∃pc:Nat,pc<x.code.length∧t.1=(pc:Int)∧t.2.2=Zw m x pc∧t.2.1 ∈QC m f S pc∧(zt S (pc:Int)).seen=true:=fun t ht=>by
  unfold Qf at ht;rw[hxN,hS]at ht;obtain⟨pc,h1,h2⟩:=qcj ht;obtain⟨h3,h4,h5,h6⟩:=qjq h2;exact⟨pc,h1,h4,h5,h6,h3⟩
 refine⟨fun t ht=> ?_,fun t ht=> ?_,fun t ht h0=> ?_⟩
 ·obtain⟨pc,h1,h2,_⟩:=key t ht;omega
 ·obtain⟨pc,h1,_,h2,_⟩:=key t ht;rw[h2];unfold Zw;rw[Xc h1];exact qkn hm hxm (Xf h1)
 ·obtain⟨pc,h1,_,h2,h3,hs⟩:=key t ht;have hi:x.code[pc]? =some x.code[pc]:=Xc h1;have he:=hF.2 pc (by rw[hF.1.len,hxN];exact h1) hs;obtain⟨⟨op,a,b⟩,ho⟩:∃i,x.code[pc]=i:=⟨_,rfl⟩
  rw[ho]at hi;have hn:=qbg (st:=(zt S (pc:Int)).stack) hx hi he.1;have hxf:=hm.method hxm;have h33:op=33:=by
   unfold QC at h3;split at h3
   ·rename_i hnil;unfold vZ at hnil;rw[hn]at hnil;exact q4x.mp hnil
   ·have hnx:=q6y (m:=m) (st:=(zt S (pc:Int)).stack) (F:=0) (P:=pc) (hxf.fits.ct _ (Xs hi)) (hxf.co _ (Xs hi)) (by have:=he.1;rw[q14 (st:=(zt S (pc:Int)).stack) hx hi]at this;exact this);rw[←q14 (st:=(zt S (pc:Int)).stack) hx hi]at hnx;have:=(hnx t.2.1 h3).1;omega
  subst h33;rw[h2];unfold Zw;rw[hi];exact qtk m a b
def ky(n:Nat)(t:Int×Int×Int):List Int×Int:=jD n t.1 t.2.1 (-t.2.2)
theorem qs7{m:za}{f pc:Nat}{x:zh}{S:List zo}(h:(zt S (pc:Int)).seen=true→vZ m f S pc=[]→Zw m x pc=0):Vb m f x S pc=(Zu m f x S pc).map (ky x.code.length):=by
 unfold Vb Zu QC;by_cases hs:(zt S (pc:Int)).seen=true
 ·rw[Xb hs,Xb hs];by_cases hn:vZ m f S pc=[]
  ·rw[Xb hn,Xb hn];simp[ky,h hs hn]
  ·rw[Xa hn,Xa hn,List.map_map];rfl
 ·rw[Xa hs,Xa hs];rfl
theorem q9e{m:za}{f:Nat}{x:zh}{S:List zo}:∀(n:Nat),(∀pc,pc<n→(zt S (pc:Int)).seen=true→vZ m f S pc=[]→Zw m x pc=0)→JZ m f x S n=jD x.code.length (-1) 0 x.pot::(vV m f x S n).map (ky x.code.length)
 |0,_=>rfl
 |n+1,h=>by
  show JZ m f x S n++Vb m f x S n=_;rw[q9e n (fun pc hp=>h pc (by omega)),qs7 (h n (by omega))];show _=_::(vV m f x S n++Zu m f x S n).map _;rw[XY];rfl
def QJ:Nat→Int→List Int→Int
 |_,_,[]=>0
 |s,i,y::M=>(if(s:Int)=i then y else 0)+QJ (s+1) i M
theorem q6c:∀(M:List Int) (s:Nat) (i:Int),i<s→QJ s i M=0
 | [],_,_,_=>rfl
 |y::M,s,i,h=>by
  show(if(s:Int)=i then y else 0)+QJ (s+1) i M=0;rw[Xa (by omega),q6c M (s+1) i (by omega)];rfl
theorem qeg:∀(M:List Int) (s k:Nat),QJ s ((s+k:Nat):Int) M=M[k]?.getD 0
 | [],_,_=>rfl
 |y::M,s,0=>by
  show(if(s:Int)=((s+0:Nat):Int)then y else 0)+QJ (s+1) ((s+0:Nat):Int) M=y;rw[Xb (by omega),q6c M (s+1) _ (by omega),Int.add_zero]
 |y::M,s,k+1=>by
  show(if(s:Int)=((s+(k+1):Nat):Int)then y else 0)+QJ (s+1) ((s+(k+1):Nat):Int) M=(y::M)[k+1]?.getD 0;rw[Xa (by omega),show s+(k+1)=s+1+k by omega,qeg M (s+1) k,Int.zero_add];rfl
theorem qd1(M:List Int)(i:Int):QJ 0 i M=atI M i:=by
 unfold atI;split
 ·rename_i h;exact q6c M 0 i (by omega)
 ·rename_i h;have:=qeg M 0 i.toNat
  rw[show((0+i.toNat:Nat):Int)=i by omega]at this;exact this
def JE(a b:Int)(s n:Nat):List Int:=(List.range n).map fun v:Nat=>(if((v+s:Nat):Int)=b then 1 else 0) - (if((v+s:Nat):Int)=a then 1 else 0)
theorem qj8(a b:Int)(s n:Nat):JE a b s (n+1)=((if(s:Int)=b then 1 else 0) - (if(s:Int)=a then 1 else 0))::JE a b (s+1) n:=by
 unfold JE;rw[List.range_succ_eq_map,List.map_cons,List.map_map];congr 1
 ·rw[Nat.zero_add]
 ·refine List.map_congr_left fun v _=> ?_;show _=_;simp only[Function.comp_apply];rw[show v+1+s=v+(s+1)by omega]
theorem qdr(a b:Int):∀(M:List Int) (s:Nat),Qo (JE a b s M.length) M=QJ s b M - QJ s a M
 | [],s=>by rw[qfm];rfl
 |y::M,s=>by
  rw[XJ,qj8];show _*y+Qo (JE a b (s+1) M.length) M=((if(s:Int)=b then y else 0)+QJ (s+1) b M) - ((if(s:Int)=a then y else 0)+QJ (s+1) a M)
  rw[qdr a b M (s+1)];split<;>split<;>omega
theorem q4t{x:zh}{a b most:Int}(hf:x.phi.length=x.code.length)(hp:∀t ∈x.phi,0≤t∧t≤4096)(hl:x.code.length≤64):ZN (jD x.code.length a b most) x.phi=some (decide (atI x.phi b - atI x.phi a≤most)):=by
 have e1:(jD x.code.length a b most).1=JE a b 0 x.phi.length:=by
  unfold jD JE;rw[hf];rfl
 have e2:Qo (jD x.code.length a b most).1 x.phi=atI x.phi b - atI x.phi a:=by
  rw[e1,qdr,qd1,qd1]
 have hd:Vr (jD x.code.length a b most).1 x.phi=some (Qo (jD x.code.length a b most).1 x.phi):=qlm (P:=1) (Q:=4096) (by decide) (by decide) (by decide) (fun c hc=>by
  unfold jD at hc;obtain⟨v,_,rfl⟩:=XW.mp hc;split<;>split<;>decide) (fun y hy=>by have:=hp y hy;omega) (by rw[e1];simp[JE];omega)
 unfold ZN;rw[Xb (by rw[e1];simp[JE]),hd,e2];rfl
theorem qe2{α:Type}{f g:α→Bool}:∀{L:List α},(∀q ∈L,f q=g q)→L.all f=L.all g
 | [],_=>rfl
 |a::L,h=>by rw[List.all_cons,List.all_cons,h a XD,qe2 fun q hq=>h q (XF _ hq)]
def kD(x:zh)(q:List Int×Int):Bool:=(ZN q x.phi).getD false
theorem qj7{m:za}{l:List (List zo)}{k:Nat}{x:zh}(hx:m.methods[k]? =some x):QA m l (k:Int)=JZ m k x (l[k]?.getD []) x.code.length:=by
 have hk:=(XM.mp hx).1;have hxN:zw m (k:Int)=x:=by unfold zw;rw[Xi,hx];rfl
 unfold QA;rw[Xb ⟨by omega,by omega⟩,Xi,hxN]
theorem qjs{m:za}{f pc:Nat}{x:zh}{S:List zo}(hf:x.phi.length=x.code.length)(hp:∀t ∈x.phi,0≤t∧t≤4096)(hl:x.code.length≤64)(hn:(zt S (pc:Int)).seen=true→∀q ∈vZ m f S pc,0≤q):
  (Vb m f x S pc).all (kD x)=pcOk m f x S pc:=by
 have hph:∀i:Int,0≤i→atI x.phi i=JH x i:=fun i hi=>by unfold atI JH;rw[Xa (by omega)]
 have hlow:∀k:Nat,0≤JH x (k:Int):=fun k=>by
  unfold JH;cases h:x.phi[(k:Int).toNat]? with
  |none=>exact XE _
  |some v=>exact(hp v (Xs h)).1
 unfold Vb pcOk;by_cases hs:(zt S (pc:Int)).seen=true
 ·rw[Xb hs,hs,Bool.not_true,Bool.false_or];by_cases hnil:vZ m f S pc=[]
  ·rw[Xb hnil,hnil];have e:atI x.phi (-1)=0:=rfl;have:=hlow pc;simp only[List.all_cons,List.all_nil,Bool.and_true];unfold kD;rw[q4t hf hp hl,e,hph _ (by omega)];show decide _=true;rw[Xt];omega
  ·rw[Xa hnil,List.all_map];refine qe2 fun q hq=> ?_;show kD x (jD x.code.length (pc:Int) q (-(Zw m x pc)))=toOk m x pc q;unfold kD toOk;rw[q4t hf hp hl,hph _ (hn hs q hq),hph _ (by omega)];show decide _=decide _;exact X8.mpr (by omega)
 ·have hs':(zt S (pc:Int)).seen=false:=by simpa using hs
  rw[Xa hs,hs'];rfl
theorem q9f{m:za}{f:Nat}{x:zh}{S:List zo}(hf:x.phi.length=x.code.length)(hp:∀t ∈x.phi,0≤t∧t≤4096)(hl:x.code.length≤64)(hn:∀pc:Nat,(zt S (pc:Int)).seen=true→∀q ∈vZ m f S pc,0≤q):
  ∀n,(JZ m f x S n).all (kD x)=(decide (JH x 0≤x.pot)&& (List.range n).all (pcOk m f x S))
 |0=>by
  show(kD x (jD x.code.length (-1) 0 x.pot)&& true)=(_&& true)
  congr 1;unfold kD;rw[q4t hf hp hl];show decide _=decide _;have e:atI x.phi (-1)=0:=rfl;have e2:atI x.phi 0=JH x 0:=by unfold atI JH;rw[Xa (by omega)]
  rw[e,e2,Int.sub_zero]
 |n+1=>by
  show(JZ m f x S n++Vb m f x S n).all (kD x)=_;rw[List.all_append,q9f hf hp hl hn n,qjs hf hp hl (hn n),List.range_succ,List.all_append,Bool.and_assoc];simp
theorem qry{m:za}{l:List (List zo)}{k:Nat}{x:zh}{S:List zo}(hm:zN m)(hx:m.methods[k]? =some x)(hS:l[k]? =some S)(hF:Jh m (k:Int) S):(QA m l (k:Int)).all (kD x)= !JB m l k:=by
 have hxm:=Xs hx;have hxf:=(hm.method hxm)
 have hxN:zw m (k:Int)=x:=by unfold zw;rw[Xi,hx];rfl
 rw[qj7 hx,hS];show(JZ m k x S x.code.length).all (kD x)=_;rw[q9f hxf.ph (fun t ht=>hxf.fits.pt t ht) hxf.fits.cl]
 ·unfold JB;rw[hxN,hS,Bool.not_not];rfl
 ·intro pc hs q hq;have hpl:pc<S.length:=by
   rcases Xk pc S.length with h|h
   ·exact h
   ·unfold zt at hs;rw[Xi,Xv h]at hs;cases hs
  have he:=(hF.2 pc hpl hs).1;obtain⟨ins,hi⟩:∃i,x.code[pc]? =some i:=⟨_,Xc (by rw[←hxN,←hF.1.len];exact hpl)⟩
  obtain⟨op,a,b⟩:=ins;have e1:=q14 (st:=(zt S (pc:Int)).stack) hx hi;have:=q6y (m:=m) (st:=(zt S (pc:Int)).stack) (F:=0) (P:=pc) (hxf.fits.ct _ (Xs hi)) (hxf.co _ (Xs hi)) (by rw[←e1];exact he);rw[←e1]at this;exact(this q hq).1
end Go.Proofs.YtcmiljnbmgkdnaaGreat
