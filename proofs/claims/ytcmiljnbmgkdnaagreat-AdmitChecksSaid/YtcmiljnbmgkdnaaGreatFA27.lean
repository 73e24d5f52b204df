import Derived.Test.YtcmiljnbmgkdnaaGreatFA25
namespace Go.Proofs.YtcmiljnbmgkdnaaGreat
set_option maxRecDepth 100000
set_option linter.unusedVariables false
set_option linter.unusedSimpArgs false
open Go.ChangeShapes Go.WideShapes Go.ChangeAt Go.RowKit
theorem q9g:(Tryz.prog.info? 75).map (fun i=>(i.zero,i.size,i.bytes))=some (some (.agg #[.bool false,.slice none 0 0]),2,32):=by kernel_rfl
theorem q7w(n:Nat):(madeCells (Value.agg #[.bool false,.slice none 0 0]).cells (n*2)).toList=Zz (List.replicate n ⟨false,none,0,[]⟩):=by
 refine List.ext_getElem? fun i=> ?_;by_cases hi:i<n*2
 ·have h1:(madeCells (Value.agg #[.bool false,.slice none 0 0]).cells (n*2)).toList[i]? =some ((#[Value.bool false,Value.slice none 0 0]:Array Value)[i % 2]!):=by
   unfold madeCells;rw[Array.getElem?_toList,Array.getElem?_map,Array.getElem?_range,Xb hi];rfl
  rw[h1];have hr:(List.replicate n (⟨false,none,0,[]⟩:zj))[i / 2]? =some ⟨false,none,0,[]⟩:=by rw[Wn,Xb (by omega)]
  have h2:=Zm (f:=ZS) (k:=2) (fun _=>rfl) (List.replicate n ⟨false,none,0,[]⟩) (i / 2) (i % 2) ⟨false,none,0,[]⟩ hr (Nat.mod_lt _ (by decide));have h3:i / 2*2+i % 2=i:=by omega
  rcases Nat.mod_two_eq_zero_or_one i with e|e
  ·rw[e]at h2;rw[e];rw[show i / 2*2+0=i by omega]at h2;exact h2.symm
  ·rw[e]at h2;rw[e];rw[show i / 2*2+1=i by omega]at h2;exact h2.symm
 ·rw[Xu (by rw[Array.length_toList,size_madeCells];omega),Xu (by rw[qqq,Wq];omega)]
theorem qcc{c:Prop}[Decidable c]{s t:zm}(h1:s.seen=true)(h2:t.seen=true):(if c then s else t).seen=true:=by
 by_cases g:c
 ·rw[Xb g];exact h1
 ·rw[Xa g];exact h2
theorem qch{m:za}{h:zg}{k n k' n':Int}{w0 w1 w:World}{r:Int×Int}(HI:Hid (zi w0 w0.heap.size h m))(HX:Hid (Below w0.heap.size w0 w1))(HW:Hid (Below w1.heap.size w1 w))(HN:Hid (m.classes.length≤1000))(HR:Hid (qe (zt m.classes) k n k' n'=r)):
  Calls Tryz.prog 100 #[.slice h.A0 m.classes.length h.c0,zA k n,zA k' n'] w fun e w'=>e= .returned (zA r.1 r.2)∧Below w.heap.size w w':=by
 have H:=qn0 (zt m.classes) k n k' n' h.A0 h.c0 w.heap.size w (by rw[jS];have:=HN.out;omega) (zn _) (Qp (HI.out.now (HX.out.trans (HW.out.mono HX.out.size))).classes.row);rw[HR.out,jS]at H;exact H
theorem qcd{L M:List (Int×Int)}{A A':Option Addr}{c c' n n':Nat}{w:World}{r:Bool}(H1:Hid (zd zh 2 w w.heap.size A c L))(H2:Hid (zd zh 2 w w.heap.size A' c' M))(h1:L.length=n)(h2:M.length=n')(HR:Hid (decide (L=M)=r)):
  Calls Tryz.prog 31 #[.slice A n c,.slice A' n' c'] w fun e w'=>e= .returned (.bool r)∧Below w.heap.size w w':=by
 subst h1 h2;have H:=q6o L M A A' c c' w.heap.size w (zn _) H1.out H2.out;rw[HR.out]at H;exact H
theorem qrp{w:World}{g:Nat}{x y:Int}(hg:g<w.heap.size)(h0:w.cell? ⟨g,0,none⟩=some (.int .i64 x))(h1:w.cell? ⟨g,1,none⟩=some (.int .i64 y)):zx w w.heap.size (some ⟨g,0,none⟩) (zI [(x,y)]):=Zn (jV hg h0 h1).row
theorem qav{w:World}{base g n:Nat}{xs:List Value}{T:TypeId}(h:w.ownsRow base T 2 (.slice (some ⟨g,0,none⟩) n n) n xs):ze w g xs T:=by
 obtain⟨h0,h1⟩:=h;rcases h1 with⟨h1,_⟩|⟨g',cap,cur,h1,_,hh,_,_,hs,hx⟩
 ·cases h1
 ·injection h1 with e1 e2 e3;simp at e1;subst e1 e3;have hc:cur.toList=xs:=by rw[←hx,XH (by rw[Array.length_toList,hs];exact zn _)]
  unfold ze;rw[hh,←hc]
theorem qay{w:World}{g n:Nat}{X:List zj}(h:qr w g (⟨false,none,0,[]⟩::X)):qr (w.setCell ⟨g,0,none⟩ (.bool true)) g (⟨true,none,0,[]⟩::X):=by
 have hz:(w.setCell ⟨g,0,none⟩ (.bool true)).heap.size=w.heap.size:=by simp
 refine⟨h.blk.set 0 _,fun y hy=> ?_⟩;rcases Xz.mp hy with q|q
 ·rw[q];exact ja
 ·have hs:=h.row y (XI _ q);exact YF hs (by rw[hz];exact zn _) (fun p hp=>World.cell?_setCell_far _ _ _ _ (fun e=>hp e.symm)) (fun j hj=>h.ty_apart hs hj)
theorem qjq{m:za}{f:Nat}{x:zf}{n:Nat}(hx:zu m (f:Int)=x)(hn:x.code.length=n+1):YW m f ((⟨true,none,0,[]⟩::List.replicate n (⟨false,none,0,[]⟩:zj)).map zj.shp):=by
 refine⟨by rw[hx,hn];simp,rfl,fun i hi h0 hs=> ?_,fun s hs=> ?_⟩
 ·exfalso;obtain⟨j,rfl⟩:∃j,i=j+1:=⟨i - 1,by omega⟩
  have hj:j<n:=by simp at hi;exact hi
  rw[JT (by simp;exact hj)]at hs;simp[zj.shp]at hs
 ·simp at hs;rcases hs with rfl|⟨_,rfl⟩<;>simp[zj.shp]
def Qk(XS:List (Nat×List zj)):List Value:=XS.map fun p=> .slice (some ⟨p.1,0,none⟩) p.2.length p.2.length
structure Zd(w:World)(v:Value)(XS:List (Nat×List zj)):Prop where
 outs:∀p ∈XS,qr w p.1 p.2
 apart:∀p ∈XS,¬v.ownBlock=some p.1
 diff:(XS.map Prod.fst).Nodup
 dry:Dry w v
theorem Zd.nil(w:World)(T:TypeId):Zd (w.alloc (.cells #[] T)) (.slice (some ⟨w.heap.size,0,none⟩) 0 0) []:=
 ⟨fun _ h=>by simp at h,fun _ h=>by simp at h,by simp,qov w T⟩
theorem Zd.below{w w':World}{v:Value}{XS:List (Nat×List zj)}(h:Zd w v XS)(hv:∀g,v.ownBlock=some g→g<w.heap.size)(hb:Below w.heap.size w w'):Zd w' v XS:=
 ⟨fun p hp=>(h.outs p hp).keep hb,h.apart,h.diff,h.dry.below hv hb⟩
theorem qr.grown{w w3:World}{v:Value}{g:Nat}{X:List zj}(h:qr w g X)(hd:Dry w v)(ha:¬v.ownBlock=some g)(hg:w.grownBy w3 v.ownBlock):qr w3 g X:=by
 have hlt:=h.blk.lt;refine⟨?_,fun x hx=> ?_⟩
 ·have hb:=h.blk;unfold ze at hb⊢
  rw[hg.block g hlt (fun e=>ha e.symm)];exact hb
 ·have hs:=h.row x hx;refine⟨hs.le,hs.cap,fun i t hi=> ?_⟩;obtain⟨ad,e,hb,h0,h1⟩:=hs.row i t hi;have hn:¬some ad.block=v.ownBlock:=fun q=>hd ad.block q.symm (ad.add (i*2)) (zp _ _) _ _ h0;have hk:∀q:Addr,q.block=ad.block→w3.cell? q=w.cell? q:=fun q hq=>X7 (by rw[hq];exact hg.block _ hb hn);exact⟨ad,e,Xp hb hg.size,(hk _ (zp _ _)).trans h0,(hk _ (by show(ad.add _).block=_;rw[zp])).trans h1⟩
theorem Zd.snoc{w w3:World}{v:Value}{XS:List (Nat×List zj)}{g g9 n k:Nat}{X:List zj}(h:Zd w v XS)(hX:qr w g X)(hg0:∀p ∈XS,p.1<g)(hgv:∀b,v.ownBlock=some b→b<g)
  (hg:w.grownBy w3 v.ownBlock) (hor:v.ownBlock=some g9∨w.heap.size≤g9) (hd:Dry w3 (.slice (some ⟨g9,0,none⟩) n k)):Zd w3 (.slice (some ⟨g9,0,none⟩) n k) (XS++[(g,X)]):=by
 have hgn:¬v.ownBlock=some g:=fun e=>Nat.lt_irrefl _ (hgv g e);refine⟨fun p hp=> ?_,fun p hp e=> ?_,?_,hd⟩
 ·rcases Xs.mp hp with q|q
  ·exact(h.outs p q).grown h.dry (h.apart p q) hg
  ·simp at q;subst q;exact hX.grown h.dry hgn hg
 ·simp[Value.ownBlock]at e;have hlt:p.1<w.heap.size:=by
   rcases Xs.mp hp with q|q
   ·exact(h.outs p q).blk.lt
   ·simp at q;subst q;exact hX.blk.lt
  rcases hor with o|o
  ·rcases Xs.mp hp with q|q
   ·exact h.apart p q (by rw[o,e])
   ·simp at q;subst q;exact hgn (by rw[o,e])
  ·omega
 ·rw[XX,List.nodup_append];refine⟨h.diff,by simp,fun a ha b hb=> ?_⟩;simp at hb;subst hb;obtain⟨p,hp,rfl⟩:=XW.mp ha;have:=hg0 p hp;omega
theorem q83:(Tryz.prog.info? 73).map (fun i=>(i.zero,i.size,i.bytes))=some (some (.slice none 0 0),1,24):=by kernel_rfl
theorem qua{w:World}{g:Nat}{X:List zj}(h:qr w g X)(hl:X.length≤1000000):zd jp 2 w w.heap.size (some ⟨g,0,none⟩) X.length (X.map zj.shp):=
 ⟨by rw[Xi];exact zn _,by omega,fun i s hi=>by
  rw[Xx]at hi;rcases Xj i X.length with q|q
  ·rw[Xc q]at hi;simp at hi;subst hi;have ea:(Addr.add ⟨g,0,none⟩ (i*2))=⟨g,i*2,none⟩:=by
    unfold Addr.add;split
    ·rename_i h0;rw[h0]
    ·simp
   refine⟨_,rfl,h.blk.lt,?_⟩;rw[ea];exact⟨h.seen_at q,X[i].A,X[i].c,h.stack_at q,h.row _ (Xd q)⟩
  ·rw[Xu q]at hi;cases hi⟩
def QC(XS:List (Nat×List zj)):List (List zm):=XS.map fun p=>p.2.map zj.shp
theorem qv4{w:World}{B e n c:Nat}{A:Option Addr}{XS:List (Nat×List zj)}(ho:w.ownsRow B e 1 (.slice A n c) n (Qk XS))(hn:XS.length=n)(h:∀p ∈XS,qr w p.1 p.2)(hl:∀p ∈XS,p.2.length≤1000000):
  zd (zG jp 2) 1 w w.heap.size A c (QC XS):=by
 have hm:(QC XS).length=n:=by unfold QC;rw[Xi];exact hn
 rcases kq ho with⟨e1,hz⟩|⟨g,c',e1,h1,h2⟩
 ·injection e1 with e1 e2 e3;subst e1 e3;have:QC XS=[]:=XZ (by omega);rw[this];exact⟨zn _,by omega,qB.nil⟩
 ·injection e1 with e1 e2 e3;subst e1 e3;obtain⟨hb,hc⟩:=JQ ho;refine⟨by rw[hm];exact h1,h2,fun i S hi=> ?_⟩;unfold QC at hi;rw[Xx]at hi;rcases Xj i XS.length with q|q
  ·rw[Xc q]at hi;simp at hi;subst hi;have hv:(Qk XS)[i]? =some (.slice (some ⟨XS[i].1,0,none⟩) XS[i].2.length XS[i].2.length):=by unfold Qk;rw[Xx,Xc q];rfl
   obtain⟨c0,hg⟩:=hc i _ hv;have ea:(Addr.add ⟨g,0,none⟩ (i*1))=⟨g,i,none⟩:=by
    unfold Addr.add;split
    ·rename_i h0;simp at h0;rw[h0]
    ·simp
   refine⟨_,rfl,hg,_,_,?_,qua (h _ (Xd q)) (hl _ (Xd q))⟩;rw[ea,Xi];exact c0
  ·rw[Xu q]at hi;cases hi
theorem qr.far{w:World}{g g':Nat}{X X':List zj}{p:Addr}(v:Value)(h':qr w g' X')(h:qr w g X)(hp:p.block=g')(hg:¬g=g'):qr (w.setCell p v) g X:=by
 have hz:(w.setCell p v).heap.size=w.heap.size:=by simp
 have hf:∀q:Addr,q.block≠g'→(w.setCell p v).cell? q=w.cell? q:=fun q hq=>World.cell?_setCell_far _ _ _ _ (fun e=>hq (by rw[←e];exact hp));refine⟨?_,fun x hx=>YF (h.row x hx) (by rw[hz];exact zn _) hf (fun j hj=>h'.ty_apart (h.row x hx) hj)⟩;have hb:=h.blk;unfold ze at hb⊢
 rw[heap_setCell_other w p g v (fun e=>hg (by rw[e];exact hp))];exact hb
def qU(m:za)(w:World)(A:Option Addr)(c:Nat)(l:List (List zm)):Prop:=zd (zG jp 2) 1 w w.heap.size A c l∧vK 64 l∧l.length=m.methods.length∧∀(i:Nat) S,l[i]? =some S→Jh m (i:Int) S
theorem kg{α:Type}{At:AtP α}(hK:vy At){k:Nat}{w w':World}{A:Option Addr}{c:Nat}{l:List α}(h:zd At k w w.heap.size A c l)(hb:Below w.heap.size w w'):zd At k w' w'.heap.size A c l:=
 (h.below_to hK hb (zn _)).keep' hK hb.size (fun _ _=>rfl)
theorem q0g{c:Prop}[Decidable c]{A B:List (Int×Int)}{n:Nat}(hA:c→A.length≤n)(hB:¬c→B.length≤n):(if c then A else B).length≤n:=by
 by_cases g:c
 ·rw[Xb g];exact hA g
 ·rw[Xa g];exact hB g
theorem qqg{m:za}{x:zf}{f:Nat}{op a b:Int}(hm:zK m)(hg:m.methods[f]? =some x)(hi:qp op a b=true)(hn:zC m x op a b=true):(zB m x op a b).length≤1000:=by
 obtain⟨o0,o1,a0,a1,b0,b1⟩:=Qn hi;unfold zB;iterate 13 refine q0g (fun _=>(by simp)) (fun _=> ?_)
 refine q0g (fun _=>Xg (q85 x) (by decide)) (fun _=> ?_);refine q0g (fun h=> ?_) (fun _=> ?_)
 ·subst h;have h1:=YA hn;have h2:a.toNat<m.methods.length:=by omega
  have h3:zu m a ∈m.methods:=by unfold zu;rw[Xc h2];exact Xd h2
  have:=(hm.method h3).all;omega
 refine q0g (fun h=> ?_) (fun _=> ?_)
 ·subst h;obtain⟨_,k,y,hk,hy,_⟩:=Yz hm a0 b0 hn;have h3:zu m (kB m a b)=y:=by unfold zu kB;rw[hk,XY,Xe,hy];rfl
  rw[h3,XL,XF];have:=(hm.method (Xo hy)).all;omega
 exact q0g (fun _=>(by simp)) (fun _=>(by simp))
def YO(r:QK)(w:World)(e:Ending)(w':World):Prop:=
 ∃A c A' c',e= .returned (.tuple #[.slice A r.after.length c,.slice A' r.next.length c',.int .i64 r.err])∧zd zh 2 w' w'.heap.size A c r.after∧zd zq 1 w' w'.heap.size A' c' r.next∧(∀ad,A=some ad→w.heap.size≤ad.block)∧(∀ad,A'=some ad→w.heap.size≤ad.block)∧Below w.heap.size w w'
theorem YO.is{r:QK}{w w':World}{e:Ending}(h:YO r w e w'):q6j r w e w':=by
 obtain⟨A,c,A',c',h1,h2,h3,_,_,h6⟩:=h;exact⟨A,c,A',c',h1,h2,h3,h6⟩
theorem q01(n:Int){w w':World}(hb:Below w.heap.size w w'):YO (qw n) w (.returned (.tuple #[.slice none 0 0,.slice none 0 0,.int .i64 n])) w':=
 ⟨none,0,none,0,rfl,⟨zn _,by omega,fun i t hi=>by simp[qw]at hi⟩,⟨zn _,by omega,fun i t hi=>by simp[qw]at hi⟩,(fun ad e=>by cases e),(fun ad e=>by cases e),hb⟩
theorem own_at{w:World}{B e n:Nat}{A:Option Addr}{m c:Nat}{xs:List Value}{k:Nat}(h:w.ownsRow B e k (.slice A m c) n xs):∀ad,A=some ad→B≤ad.block:=fun ad ea=>by
 subst ea;have:=(h.lt ad.block rfl).1;exact this
theorem qjw(m:za)(f pc:Int)(st:List (Int×Int))(A:Option Addr)(cap:Nat)(h:zg)(w:World)(H:zi w w.heap.size h m)(hf:f<0∨(m.methods.length:Int)≤f):
  Calls Tryz.prog 90 #[zk h m,.int .i64 f,.int .i64 pc,.slice A st.length cap] w (YO (zD m f pc st) w):=by
 have e0:zD m f pc st=qw 1:=by unfold zD;rw[Xa (by omega)]
 rw[e0];have hle:=H.methods.le;have hcap:=H.methods.cap;have HF:=zH hf;have hpc:pc<0∨((0:Nat):Int)≤pc:=by omega
 have HPC:=zH hpc;have HW:=zH ((zb w.heap.size w).alloc (zn _) (zo h m));have HBX:=zH (zX w h m);clear H e0 hf hpc;go_enter Tryz.func90,Tryz.ntmps90;go_upto_region 1 with fail
 generalize w.alloc (zo h m)=w1 at*
 obtain⟨q0,q1,q2,q3,q4,q5,q6⟩:=HBX.out;go_upto_region 2 with(go_at_call 134;(with_reducible refine(qkb f m.methods.length h.c3 h.A3 w1 (by omega) HF.out).mono ?_);rintro e w2 ⟨rfl,hb⟩;have HB2:=zH hb;clear hb)
 have HC:=zH (qa w2 [.slice none 0 0,.slice none 0 0,.int .i64 0,.int .i64 0,.slice none 0 0,.int .i64 0,.int .i64 0,.slice none 0 0] 53);have HB3:Hid (Below w1.heap.size w1 (w2.alloc (.cells ([.slice none 0 0,.slice none 0 0,.int .i64 0,.int .i64 0,.slice none 0 0,.int .i64 0,.int .i64 0,.slice none 0 0]:List Value).toArray 53))):=zH (HB2.out.alloc HB2.out.size _);change Code.wp _ _ _ _ (w2.alloc (.cells ([.slice none 0 0,.slice none 0 0,.int .i64 0,.int .i64 0,.slice none 0 0,.int .i64 0,.int .i64 0,.slice none 0 0]:List Value).toArray 53));generalize w2.alloc (.cells ([.slice none 0 0,.slice none 0 0,.int .i64 0,.int .i64 0,.slice none 0 0,.int .i64 0,.int .i64 0,.slice none 0 0]:List Value).toArray 53)=w3 at*
 have c4:=HC.out 4 _ rfl;go_wp2_with(go_at_call 135;(with_reducible refine(qbm pc 0 0 none w3 (by omega) HPC.out).mono ?_);rintro e w4 ⟨rfl,hb⟩;have HB4:=zl HB3 hb;clear hb)
 go_ret3
 exact q01 1 (HW.out.trans ((HB4.out.alloc HB4.out.size _).mono HW.out.size))
theorem qjv(m:za)(x:zf)(F:Nat)(pc:Int)(st:List (Int×Int))(A:Option Addr)(cap:Nat)(h:zg)(w:World)(H:zi w w.heap.size h m)(hx:m.methods[F]? =some x)(hp:pc<0∨(x.code.length:Int)≤pc):
  Calls Tryz.prog 90 #[zk h m,.int .i64 F,.int .i64 pc,.slice A st.length cap] w (YO (zD m F pc st) w):=by
 have e0:zD m F pc st=qw 1:=by
  unfold zD zu;rw[Xe,hx,XY,Xa (by omega)]
 rw[e0];have HP:=zH hp;have HG:=zH hx;have HW:=zH ((zb w.heap.size w).alloc (zn _) (zo h m));have HI:=zH (H.now HW.out);have HBX:=zH (zX w h m);clear H e0 hp hx;go_enter Tryz.func90,Tryz.ntmps90;go_upto_region 1 with fail
 generalize w.alloc (zo h m)=w1 at*
 obtain⟨q0,q1,q2,q3,q4,q5,q6⟩:=HBX.out;have HX0:Hid (Below w1.heap.size w1 w1):=zH (zb _ _);go_upto_region 2 with(go_at_call 134;(with_reducible refine(Vp HI HX0 HG.out).mono ?_);rintro e w2 ⟨hn,rfl,hmi,hb⟩;have HM2:=zH hmi;have HB2:=zH hb;clear hmi hb)
 have hc1:=HM2.out.code.le;have hc2:=HM2.out.code.cap;have HC:=zH (qa w2 (zL hn x) 53);have HB3:Hid (Below w1.heap.size w1 (w2.alloc (.cells (zL hn x).toArray 53))):=zH (HB2.out.alloc HB2.out.size _);generalize w2.alloc (.cells (zL hn x).toArray 53)=w3 at*
 have c4:=HC.out 4 _ rfl;go_wp2_with(go_at_call 135;(with_reducible refine(qbm pc x.code.length hn.k4 hn.A4 w3 (by omega) HP.out).mono ?_);rintro e w4 ⟨rfl,hb⟩;have HB4:=zl HB3 hb;clear hb)
 go_ret3
 exact q01 1 (HW.out.trans ((HB4.out.alloc HB4.out.size _).mono HW.out.size))
set_option maxHeartbeats 3200000 in
theorem qs2(m:za)(x:zf)(F P:Nat)(op a b:Int)(st:List (Int×Int))(A:Option Addr)(cap:Nat)(h:zg)(w:World)(H:zi w w.heap.size h m)(hm:zK m)(hx:m.methods[F]? =some x)(hin:qp op a b=true)(hna:zC m x op a b=true)
  (hi:x.code[P]? =some (op,a,b)) (hst:zd zh 2 w w.heap.size A cap st) (hs:st.length≤4000) (r:QK) (hr:qx m x P op a b st=r):
  Calls Tryz.prog 90 #[zk h m,.int .i64 F,.int .i64 P,.slice A st.length cap] w (YO r w):=by
 have HR:=zH hr.symm;have hxm:=hm.method (Xo hx);have HFI:=zH hi;have HG:=zH hx;have HN:=zH (And.intro hin hna);have hcl:m.classes.length≤1000:=by have:=hm.fits.cl;omega
 have hP:P<x.code.length:=by
  rcases Xj P x.code.length with g|g
  ·exact g
  ·rw[Xu g]at hi;cases hi
 have hPm:P≤1000000:=by have:=hxm.fits.cl;omega
 obtain⟨NL,hNL⟩:∃NL,qE (P:Int) op a=NL:=⟨_,rfl⟩
 obtain⟨W,hW⟩:∃W,zJ m x op a b=W:=⟨_,rfl⟩
 have HNL:=zH hNL;have HWL:=zH hW;have hWl:W.length≤1000:=by
  rw[←hW,qlr hm hx hin hna];split
  ·omega
  ·exact qqg hm hx hin hna
 obtain⟨d,hd⟩:∃d,st.length - W.length=d:=⟨_,rfl⟩
 have HD:=zH hd;obtain⟨RS,hRS⟩:∃RS,st.take d=RS:=⟨_,rfl⟩
 obtain⟨TK,hTK⟩:∃TK,st.drop d=TK:=⟨_,rfl⟩
 obtain⟨GV,hGV⟩:∃GV,zU m x op a b TK=GV:=⟨_,rfl⟩
 have hTl:TK.length≤1000:=by rw[←hTK,XF];omega
 have hRl:RS.length≤4000:=by rw[←hRS,XU];omega
 have hGl:GV.length≤1000∨op=6:=by
  by_cases h6:op=6
  ·exact .inr h6
  ·refine .inl ?_;rw[←hGV];unfold zU;rw[Xa h6];have:=q9i m x op a b;omega
 obtain⟨AF,hAF⟩:∃AF,RS++GV=AF:=⟨_,rfl⟩
 have HAF:=zH hAF;have HGV:=zH hGV;have HRS:=zH hRS;have HTK:=zH hTK;obtain⟨r1,hr1⟩:∃r,ZT x.code.length NL=r:=⟨_,rfl⟩
 obtain⟨r2,hr2⟩:∃r,Jb (zt m.classes) TK W=r:=⟨_,rfl⟩
 have HR1:=zH hr1;have HR2:=zH hr2;have HE1:Hid (r1=true→r=qw 4):=zH (fun g=>by rw[←hr];exact qqk hna (by rw[hNL,hr1,g]));have HE2:Hid (r1=false→r=if r2=true then(if 8<AF.length then qw 4 else⟨AF,NL,0⟩)else qw 4):=zH (fun g=>by
  rw[←hr,qm7 hm hx hin hna (by rw[hNL,hr1,g]),hW,hNL];unfold q1v;rw[hd,hTK,hRS,hGV,hAF,hr2])
 have h2:=H.methods.le;have hGl2:r2=true→GV.length≤1000:=fun g=>by
  rcases hGl with q|q
  ·exact q
  ·subst q;have e1:W=[(6,0)]:=by rw[←hW];simp[zJ]
   rw[←hr2]at g;unfold Jb at g;rw[Xv,Xr,e1]at g;have e2:GV=TK++TK:=by rw[←hGV];unfold zU;rw[Xb rfl]
   rw[e2,Xt,g.1];decide
 have HGL:=zH hGl2;have HW0:=zH ((zb w.heap.size w).alloc (zn _) (zo h m));have HI:=zH (H.now HW0.out);have HBX:=zH (zX w h m);have HZ1:Hid (w.heap.size<(w.alloc (zo h m)).heap.size):=zH (by simp);have HST:=zH (kg zh.keeps hst HW0.out);clear H hr hNL hW hd hRS hTK hGV hAF hr1 hr2 hGl hGl2 hin hna hi hx hst hxm hP;go_enter Tryz.func90,Tryz.ntmps90;go_upto_region 1 with fail
 generalize w.alloc (zo h m)=w1 at*
 obtain⟨q0,q1,q2,q3,q4,q5,q6⟩:=HBX.out;have HX0:Hid (Below w1.heap.size w1 w1):=zH (zb _ _);go_upto_region 2 with(go_at_call 134;(with_reducible refine(Vp HI HX0 HG.out).mono ?_);rintro e w2 ⟨hn,rfl,hmi,hb⟩;have HM2:=zH hmi;have HB2:=zH hb;clear hmi hb)
 have HC:=zH (qa w2 (zL hn x) 53);have HA:Hid (Below w2.heap.size w2 (w2.alloc (.cells (zL hn x).toArray 53))):=zH ((zb _ _).alloc (zn _) _);have HZ3:Hid (w2.heap.size<(w2.alloc (.cells (zL hn x).toArray 53)).heap.size):=zH (by simp);have HM3:=zH (HM2.out.now HA.out);have HB3:=zH (HB2.out.trans (HA.out.mono HB2.out.size));generalize w2.alloc (.cells (zL hn x).toArray 53)=w3 at*
 have c4:=HC.out 4 _ rfl;go_upto_region 3 with(go_at_call 135;(with_reducible refine(qot HM3.out.code HFI.out).mono ?_);rintro e w4 ⟨rfl,hb⟩;have HY4:=zH hb;have HB4:=zl HB3 hb;clear hb)
 have HC5:=zH (qa w4 [.int .i64 op,.int .i64 a,.int .i64 b] 55);have HZ5:Hid (w4.heap.size<(w4.alloc (.cells #[.int .i64 op,.int .i64 a,.int .i64 b] 55)).heap.size):=zH (by simp);have HY5:Hid (Below w3.heap.size w3 (w4.alloc (.cells #[.int .i64 op,.int .i64 a,.int .i64 b] 55))):=zH (HY4.out.alloc HY4.out.size _);have HB5:Hid (Below w1.heap.size w1 (w4.alloc (.cells #[.int .i64 op,.int .i64 a,.int .i64 b] 55))):=zH (HB4.out.alloc HB4.out.size _);clear q0 q1 q2 q3 q4 q5 q6 c4;generalize w4.alloc (.cells #[.int .i64 op,.int .i64 a,.int .i64 b] 55)=w5 at*
 have HC3:=zH (HC.out.keep HY5.out HZ3.out);have HBX5:=zH (HBX.out.keep HB5.out HZ1.out);have HI5:=zH (HI.out.now HB5.out);have HST5:=zH (kg zh.keeps HST.out HB5.out);have HM5:Hid (w2.heap.size<w5.heap.size):=zH (Xp HZ3.out HY5.out.size);have HN5:Hid (w.heap.size<w5.heap.size):=zH (Xp HZ1.out HB5.out.size);have HW5:=zH (HW0.out.trans (HB5.out.mono HW0.out.size));clear HC HM2 HB2 HM3 HB3 HA HB4 HY4 HY5 HBX HI HST HB5 HX0;obtain⟨o0,o1,o2⟩:=zM HC5.out;go_upto_region 6 with(go_at_call 136;(with_reducible refine(qoo HNL hPm).mono ?_);rintro e w6 ⟨An,cn,rfl,hs6,hna,hb⟩;have HX6:=zH hb;have HS6:=zH hs6;have HNA:=zH hna;clear hs6 hb hna)
 have d4:=(HC3.out.keep HX6.out HM5.out) 4 _ rfl;cases r1
 ·have HX6':=HX6;go_upto_region 8 with(go_at_call 137;(with_reducible refine(q9m HS6.out HR1).mono ?_);rintro e w7 ⟨rfl,hb⟩;have HX7:=zl HX6 hb;have HS7:=zH (kg zq.keeps HS6.out hb);clear hb)
  clear o0 o1 o2 d4;obtain⟨o0,o1,o2⟩:=zM (HC5.out.keep HX7.out HZ5.out);obtain⟨q0,q1,q2,q3,q4,q5,q6⟩:=HBX5.out.keep HX7.out HN5.out;go_upto_region 9 with(go_at_call 138;(with_reducible refine(qog HI5 HX7 hm HG HN HWL).mono ?_);rintro e w8 ⟨Aw,cw,rfl,hs8,hb⟩;have HX8:=zl HX7 hb;have HS8:=zH (kg zq.keeps HS7.out hb);have HWS8:=zH hs8;clear hb hs8)
  have HST8:=zH (kg zh.keeps HST5.out HX8.out);go_upto_region 10 with(go_at_call 139;(with_reducible refine(qs9 st W.length (by omega) (by omega) A cap _ HST8.out).mono ?_);rintro e w9 ⟨A1,c1,A2,c2,rfl,hs1,hs2,hb,hh⟩;rw[HD.out]at*;rw[HRS.out]at*;rw[HTK.out]at*;have HX9:=zl HX8 hb;have HS9:=zH (kg zq.keeps HS8.out hb);have HWS9:=zH (kg zh.keeps HWS8.out hb);have HRS9:=zH (kg zh.keeps hs1 hb);have HTK9:=zH (kg zh.keeps hs2 hb);clear hb hs1 hs2 hh)
  clear q0 q1 q2 q3 q4 q5 q6 o0 o1 o2;obtain⟨q0,q1,q2,q3,q4,q5,q6⟩:=HBX5.out.keep HX9.out HN5.out;cases r2
  ·go_wp2_with(go_at_call 140;(with_reducible refine(q9o HI5 HX9 hcl HTK9.out HWS9.out HR2).mono ?_);rintro e w10 ⟨rfl,hb⟩;have HX10:=zl HX9 hb;have HS10:=zH (kg zq.keeps HS9.out hb);have HRS10:=zH (kg zh.keeps HRS9.out hb);have HTK10:=zH (kg zh.keeps HTK9.out hb);clear hb)
   go_ret3
   rw[HE2.out (by simp),Xa (by simp)];exact q01 4 (HW5.out.trans (HX10.out.mono HW5.out.size))
  ·go_upto_region 12 with(go_at_call 140;(with_reducible refine(q9o HI5 HX9 hcl HTK9.out HWS9.out HR2).mono ?_);rintro e w10 ⟨rfl,hb⟩;have HX10:=zl HX9 hb;have HS10:=zH (kg zq.keeps HS9.out hb);have HRS10:=zH (kg zh.keeps HRS9.out hb);have HTK10:=zH (kg zh.keeps HTK9.out hb);clear hb)
   clear q0 q1 q2 q3 q4 q5 q6;obtain⟨o0,o1,o2⟩:=zM (HC5.out.keep HX10.out HZ5.out);obtain⟨q0,q1,q2,q3,q4,q5,q6⟩:=HBX5.out.keep HX10.out HN5.out;have hGl:=HGL.out (by simp);go_upto_region 13 with(first
    |(go_at_call 142;(with_reducible refine(qoq HI5 HX10 hm HG HN HGV hTl HTK10.out).mono ?_);rintro e w11 ⟨Ag,cg,rfl,hsg,hb⟩;have HX11:=zl HX10 hb;have HS11:=zH (kg zq.keeps HS10.out hb);have HRS11:=zH (kg zh.keeps HRS10.out hb);have HGV11:=zH hsg;clear hb hsg)
    |(go_at_call 141;(with_reducible refine(qfr (g:=w11.heap.size) HAF (VQ HRS11.out _) (VQ HGV11.out _) (by simp) (qa w11 [.slice A1 RS.length c1,.slice Ag GV.length cg] 23) hRl hGl).mono ?_);rintro e w12 ⟨v12,rfl,ho,hb⟩;have hb':=((zb w11.heap.size w11).alloc (zn _) (.cells #[.slice A1 RS.length c1,.slice Ag GV.length cg] 23)).trans (hb.mono (by simp));obtain⟨Af,cf,rfl,hsf,_⟩:=kU ho;have HFA:=zH (own_at ho);have HX12:=zH (HX11.out.trans (hb'.mono HX11.out.size));have HS12:=zH (kg zq.keeps HS11.out hb');have HAF12:=zH hsf;clear hb hb' ho hsf))
   by_cases h8:8<AF.length
   ·have h8':(AF.length:Int)>8:=by omega
    have H8:=zH h8;go_wp2_with fail
    go_ret3
    rw[HE2.out (by simp),Xb trivial,Xb H8.out];exact q01 4 (HW5.out.trans (HX12.out.mono HW5.out.size))
   ·have h8':¬(AF.length:Int)>8:=by omega
    have H8:=zH h8;go_wp2_with fail
    go_ret3
    rw[HE2.out (by simp),Xb trivial,Xa H8.out];exact⟨_,_,_,_,rfl,HAF12.out,HS12.out,fun ad ea=>Xg (Xg (Xg HW5.out.size HX11.out.size) (by simp)) (HFA.out ad ea),fun ad ea=>Xg HW5.out.size (HNA.out ad ea),HW5.out.trans (HX12.out.mono HW5.out.size)⟩
 ·go_wp2_with(go_at_call 137;(with_reducible refine(q9m HS6.out HR1).mono ?_);rintro e w7 ⟨rfl,hb⟩;have HX7:=zl HX6 hb;clear hb)
  go_ret3
  rw[HE1.out (by simp)];exact q01 4 (HW5.out.trans (HX7.out.mono HW5.out.size))
theorem qbi(m:za)(f pc:Int)(st:List (Int×Int))(A:Option Addr)(cap:Nat)(h:zg)(w:World)(H:zi w w.heap.size h m)(hm:zK m)(hst:zd zh 2 w w.heap.size A cap st)(hs:st.length≤4000):
  Calls Tryz.prog 90 #[zk h m,.int .i64 f,.int .i64 pc,.slice A st.length cap] w (YO (zD m f pc st) w):=by
 by_cases f0:f<0∨(m.methods.length:Int)≤f
 ·exact qjw m f pc st A cap h w H f0
 obtain⟨F,rfl⟩:=Xm (show 0≤f by omega);have hF:F<m.methods.length:=by omega
 obtain⟨x,hx⟩:∃x,m.methods[F]? =some x:=⟨_,Xc hF⟩
 by_cases p0:pc<0∨(x.code.length:Int)≤pc
 ·exact qjv m x F pc st A cap h w H hx p0
 obtain⟨P,rfl⟩:=Xm (show 0≤pc by omega);have hP:P<x.code.length:=by omega
 obtain⟨⟨op,a,b⟩,hi⟩:∃i,x.code[P]? =some i:=⟨_,Xc hP⟩
 have e:zD m (F:Int) (P:Int) st=qx m x P op a b st:=by
  unfold zD zu;rw[Xe,hx,XY,Xb ⟨by omega,by omega,by omega,by omega⟩,Xe,hi]
 rw[e];have hxm:=hm.method (Xo hx);have him:=Xo hi;exact qs2 m x F P op a b st A cap h w H hm hx (hxm.fits.ct _ him) (hxm.co _ him) hi hst hs _ rfl
def Qy(m:za)(f:Nat)(S:List zm)(pc:Nat):List Int:=if vR m f S pc=[]then [-1]else vR m f S pc
def Zr(m:za)(f:Nat)(x:zf)(S:List zm)(pc:Nat):List (Int×Int×Int):=if(zr S (pc:Int)).seen=true then(Qy m f S pc).map fun q=>((pc:Int),q,kN m x pc)else []
def kw(m:za)(f:Nat)(x:zf)(S:List zm):Nat→List (Int×Int×Int)
 |0=> []
 |pc+1=>kw m f x S pc++Zr m f x S pc
def Qf(m:za)(l:List (List zm))(f:Nat):List (Int×Int×Int):=kw m f (zu m (f:Int)) (l[f]?.getD []) (zu m (f:Int)).code.length
theorem qc0{m:za}{f:Nat}{x:zf}{S:List zm}{t:Int×Int×Int}:∀{n:Nat},t ∈kw m f x S n→∃pc:Nat,pc<n∧t ∈Zr m f x S pc
 |0,h=>nomatch h
 |n+1,h=>by
  rcases Xs.mp h with q|q
  ·obtain⟨pc,h1,h2⟩:=qc0 q;exact⟨pc,by omega,h2⟩
  ·exact⟨n,by omega,q⟩
theorem qir{m:za}{f:Nat}{x:zf}{S:List zm}{pc:Nat}{t:Int×Int×Int}(h:t ∈Zr m f x S pc):(zr S (pc:Int)).seen=true∧t.1=(pc:Int)∧t.2.2=kN m x pc∧t.2.1 ∈Qy m f S pc:=by
 unfold Zr at h;split at h
 ·rename_i hs;obtain⟨q,hq,rfl⟩:=XW.mp h;exact⟨hs,rfl,rfl,hq⟩
 ·cases h
theorem qis(m:za)(f:Nat)(x:zf)(S:List zm)(pc:Nat)(h:(vR m f S pc).length≤2):(Zr m f x S pc).length≤2:=by
 unfold Zr Qy;split
 ·rw[Xi];split
  ·exact(show 1≤2 by omega)
  ·exact h
 ·exact Xl _
theorem q5a(m:za)(f:Nat)(x:zf)(S:List zm)(h:∀pc,(vR m f S pc).length≤2):∀n,(kw m f x S n).length≤2*n
 |0=>zn _
 |n+1=>by
  have h1:=q5a m f x S h n;have h2:=qis m f x S n (h n);show(kw m f x S n++Zr m f x S n).length≤_;rw[Xt];omega
theorem qre(m:za)(f pc:Int)(st:List (Int×Int)):(zD m f pc st).next.length≤2:=by
 have h0:∀e,(qw e).next.length≤2:=fun e=>Xl _;have h1:∀pc op a:Int,(qE pc op a).length≤2:=fun pc op a=>by
  unfold qE;split
  ·exact(show 1≤2 by omega)
  ·split
   ·exact(show 2≤2 by omega)
   ·split
    ·exact Xl _
    ·exact(show 1≤2 by omega)
 unfold zD;split
 ·split
  ·unfold qx;split
   ·exact h0 _
   ·split
    ·exact h0 _
    ·split
     ·exact h1 _ _ _
     ·exact h0 _
  ·exact h0 _
 ·exact h0 _
theorem q40(m:za)(f:Nat)(S:List zm)(pc:Nat):(vR m f S pc).length≤2:=qre ..
theorem qb0{m:za}{f pc:Nat}{x:zf}{op a b:Int}{st:List (Int×Int)}(hx:m.methods[f]? =some x)(hi:x.code[pc]? =some (op,a,b))(he:(zD m (f:Int) (pc:Int) st).err=0):(zD m (f:Int) (pc:Int) st).next=qE (pc:Int) op a:=by
 have e1:=YD (st:=st) hx hi;rw[e1]at he⊢
 unfold qx at he⊢
 split
 ·rename_i h;rw[Xb h]at he;exact absurd he (by decide)
 ·rename_i h;rw[Xa h]at he;split
  ·rename_i h2;rw[Xb h2]at he;exact absurd he (by decide)
  ·rename_i h2;rw[Xa h2]at he;split
   ·rfl
   ·rename_i h3;rw[Xa h3]at he;exact absurd he (by decide)
theorem q41{pc op a:Int}:qE pc op a=[]↔op=33:=by
 unfold qE;by_cases h1:op=18
 ·subst h1;simp
 ·rw[Xa h1];by_cases h2:op=19
  ·subst h2;simp
  ·rw[Xa h2];by_cases h3:op=33
   ·rw[Xb h3];simp[h3]
   ·rw[Xa h3];simp[h3]
theorem qsi(m:za)(a b:Int):kh m 33 a b=0:=rfl
theorem qt7{m:za}{l:List (List zm)}{f:Nat}{x:zf}{S:List zm}(hm:zK m)(hx:m.methods[f]? =some x)(hS:l[f]? =some S)(hF:Jh m (f:Int) S):q6h (Qf m l f) x.code.length:=by
 have hxN:zu m (f:Int)=x:=by unfold zu;rw[Xe,hx];rfl
 have hxm:=Xo hx;have key:∀t ∈Qf m l f,∃pc:Nat,pc<x.code.length∧t.1=(pc:Int)∧t.2.2=kN m x pc∧t.2.1 ∈Qy m f S pc∧(zr S (pc:Int)).seen=true:=fun t ht=>by
  unfold Qf at ht;rw[hxN,hS]at ht;obtain⟨pc,h1,h2⟩:=qc0 ht;obtain⟨h3,h4,h5,h6⟩:=qir h2;exact⟨pc,h1,h4,h5,h6,h3⟩
 refine⟨fun t ht=> ?_,fun t ht=> ?_,fun t ht h0=> ?_⟩
 ·obtain⟨pc,h1,h2,_⟩:=key t ht;omega
 ·obtain⟨pc,h1,_,h2,_⟩:=key t ht;rw[h2];unfold kN;rw[Xc h1];exact q9h hm hxm (Xd h1)
 ·obtain⟨pc,h1,_,h2,h3,hs⟩:=key t ht;have hi:x.code[pc]? =some x.code[pc]:=Xc h1;have he:=hF.2 pc (by rw[hF.1.len,hxN];exact h1) hs;obtain⟨⟨op,a,b⟩,ho⟩:∃i,x.code[pc]=i:=⟨_,rfl⟩
  rw[ho]at hi;have hn:=qb0 (st:=(zr S (pc:Int)).stack) hx hi he.1;have hxf:=hm.method hxm;have h33:op=33:=by
   unfold Qy at h3;split at h3
   ·rename_i hnil;unfold vR at hnil;rw[hn]at hnil;exact q41.mp hnil
   ·have hnx:=q0m (m:=m) (st:=(zr S (pc:Int)).stack) (F:=0) (P:=pc) (hxf.fits.ct _ (Xo hi)) (hxf.co _ (Xo hi)) (by have:=he.1;rw[YD (st:=(zr S (pc:Int)).stack) hx hi]at this;exact this);rw[←YD (st:=(zr S (pc:Int)).stack) hx hi]at hnx;have:=(hnx t.2.1 h3).1;omega
  subst h33;rw[h2];unfold kN;rw[hi];exact qsi m a b
def kJ(n:Nat)(t:Int×Int×Int):List Int×Int:=jE n t.1 t.2.1 (-t.2.2)
theorem qr4{m:za}{f pc:Nat}{x:zf}{S:List zm}(h:(zr S (pc:Int)).seen=true→vR m f S pc=[]→kN m x pc=0):YM m f x S pc=(Zr m f x S pc).map (kJ x.code.length):=by
 unfold YM Zr Qy;by_cases hs:(zr S (pc:Int)).seen=true
 ·rw[Xb hs,Xb hs];by_cases hn:vR m f S pc=[]
  ·rw[Xb hn,Xb hn];simp[kJ,h hs hn]
  ·rw[Xa hn,Xa hn,List.map_map];rfl
 ·rw[Xa hs,Xa hs];rfl
theorem q8s{m:za}{f:Nat}{x:zf}{S:List zm}:∀(n:Nat),(∀pc,pc<n→(zr S (pc:Int)).seen=true→vR m f S pc=[]→kN m x pc=0)→Yb m f x S n=jE x.code.length (-1) 0 x.pot::(kw m f x S n).map (kJ x.code.length)
 |0,_=>rfl
 |n+1,h=>by
  show Yb m f x S n++YM m f x S n=_;rw[q8s n (fun pc hp=>h pc (by omega)),qr4 (h n (by omega))];show _=_::(kw m f x S n++Zr m f x S n).map _;rw[XX];rfl
def QJ:Nat→Int→List Int→Int
 |_,_,[]=>0
 |s,i,y::M=>(if(s:Int)=i then y else 0)+QJ (s+1) i M
theorem q5h:∀(M:List Int) (s:Nat) (i:Int),i<s→QJ s i M=0
 | [],_,_,_=>rfl
 |y::M,s,i,h=>by
  show(if(s:Int)=i then y else 0)+QJ (s+1) i M=0;rw[Xa (by omega),q5h M (s+1) i (by omega)];rfl
theorem qdy:∀(M:List Int) (s k:Nat),QJ s ((s+k:Nat):Int) M=M[k]?.getD 0
 | [],_,_=>rfl
 |y::M,s,0=>by
  show(if(s:Int)=((s+0:Nat):Int)then y else 0)+QJ (s+1) ((s+0:Nat):Int) M=y;rw[Xb (by omega),q5h M (s+1) _ (by omega),Int.add_zero]
 |y::M,s,k+1=>by
  show(if(s:Int)=((s+(k+1):Nat):Int)then y else 0)+QJ (s+1) ((s+(k+1):Nat):Int) M=(y::M)[k+1]?.getD 0;rw[Xa (by omega),show s+(k+1)=s+1+k by omega,qdy M (s+1) k,Int.zero_add];rfl
theorem qcn(M:List Int)(i:Int):QJ 0 i M=atI M i:=by
 unfold atI;split
 ·rename_i h;exact q5h M 0 i (by omega)
 ·rename_i h;have:=qdy M 0 i.toNat
  rw[show((0+i.toNat:Nat):Int)=i by omega]at this;exact this
def JF(a b:Int)(s n:Nat):List Int:=(List.range n).map fun v:Nat=>(if((v+s:Nat):Int)=b then 1 else 0) - (if((v+s:Nat):Int)=a then 1 else 0)
theorem qhw(a b:Int)(s n:Nat):JF a b s (n+1)=((if(s:Int)=b then 1 else 0) - (if(s:Int)=a then 1 else 0))::JF a b (s+1) n:=by
 unfold JF;rw[List.range_succ_eq_map,List.map_cons,List.map_map];congr 1
 ·rw[Nat.zero_add]
 ·refine List.map_congr_left fun v _=> ?_;show _=_;simp only[Function.comp_apply];rw[show v+1+s=v+(s+1)by omega]
theorem qda(a b:Int):∀(M:List Int) (s:Nat),Qj (JF a b s M.length) M=QJ s b M - QJ s a M
 | [],s=>by rw[qex];rfl
 |y::M,s=>by
  rw[XL,qhw];show _*y+Qj (JF a b (s+1) M.length) M=((if(s:Int)=b then y else 0)+QJ (s+1) b M) - ((if(s:Int)=a then y else 0)+QJ (s+1) a M)
  rw[qda a b M (s+1)];split<;>split<;>omega
theorem q3y{x:zf}{a b most:Int}(hf:x.phi.length=x.code.length)(hp:∀t ∈x.phi,0≤t∧t≤4096)(hl:x.code.length≤64):ZK (jE x.code.length a b most) x.phi=some (decide (atI x.phi b - atI x.phi a≤most)):=by
 have e1:(jE x.code.length a b most).1=JF a b 0 x.phi.length:=by
  unfold jE JF;rw[hf];rfl
 have e2:Qj (jE x.code.length a b most).1 x.phi=atI x.phi b - atI x.phi a:=by
  rw[e1,qda,qcn,qcn]
 have hd:YX (jE x.code.length a b most).1 x.phi=some (Qj (jE x.code.length a b most).1 x.phi):=qkj (P:=1) (Q:=4096) (by decide) (by decide) (by decide) (fun c hc=>by
  unfold jE at hc;obtain⟨v,_,rfl⟩:=XW.mp hc;split<;>split<;>decide) (fun y hy=>by have:=hp y hy;omega) (by rw[e1];simp[JF];omega)
 unfold ZK;rw[Xb (by rw[e1];simp[JF]),hd,e2];rfl
theorem qdh{α:Type}{f g:α→Bool}:∀{L:List α},(∀q ∈L,f q=g q)→L.all f=L.all g
 | [],_=>rfl
 |a::L,h=>by rw[List.all_cons,List.all_cons,h a XE,qdh fun q hq=>h q (XI _ hq)]
def kM(x:zf)(q:List Int×Int):Bool:=(ZK q x.phi).getD false
theorem qhv{m:za}{l:List (List zm)}{k:Nat}{x:zf}(hx:m.methods[k]? =some x):Qx m l (k:Int)=Yb m k x (l[k]?.getD []) x.code.length:=by
 have hk:=(Xw.mp hx).1;have hxN:zu m (k:Int)=x:=by unfold zu;rw[Xe,hx];rfl
 unfold Qx;rw[Xb ⟨by omega,by omega⟩,Xe,hxN]
theorem qit{m:za}{f pc:Nat}{x:zf}{S:List zm}(hf:x.phi.length=x.code.length)(hp:∀t ∈x.phi,0≤t∧t≤4096)(hl:x.code.length≤64)(hn:(zr S (pc:Int)).seen=true→∀q ∈vR m f S pc,0≤q):
  (YM m f x S pc).all (kM x)=ZA m f x S pc:=by
 have hph:∀i:Int,0≤i→atI x.phi i=vn x i:=fun i hi=>by unfold atI vn;rw[Xa (by omega)]
 have hlow:∀k:Nat,0≤vn x (k:Int):=fun k=>by
  unfold vn;cases h:x.phi[(k:Int).toNat]? with
  |none=>exact XR _
  |some v=>exact(hp v (Xo h)).1
 unfold YM ZA;by_cases hs:(zr S (pc:Int)).seen=true
 ·rw[Xb hs,hs,Bool.not_true,Bool.false_or];by_cases hnil:vR m f S pc=[]
  ·rw[Xb hnil,hnil];have e:atI x.phi (-1)=0:=rfl;have:=hlow pc;simp only[List.all_cons,List.all_nil,Bool.and_true];unfold kM;rw[q3y hf hp hl,e,hph _ (by omega)];show decide _=true;rw[Xr];omega
  ·rw[Xa hnil,List.all_map];refine qdh fun q hq=> ?_;show kM x (jE x.code.length (pc:Int) q (-(kN m x pc)))=QM m x pc q;unfold kM QM;rw[q3y hf hp hl,hph _ (hn hs q hq),hph _ (by omega)];show decide _=decide _;exact Wa.mpr (by omega)
 ·have hs':(zr S (pc:Int)).seen=false:=by simpa using hs
  rw[Xa hs,hs'];rfl
theorem q8t{m:za}{f:Nat}{x:zf}{S:List zm}(hf:x.phi.length=x.code.length)(hp:∀t ∈x.phi,0≤t∧t≤4096)(hl:x.code.length≤64)(hn:∀pc:Nat,(zr S (pc:Int)).seen=true→∀q ∈vR m f S pc,0≤q):
  ∀n,(Yb m f x S n).all (kM x)=(decide (vn x 0≤x.pot)&& (List.range n).all (ZA m f x S))
 |0=>by
  show(kM x (jE x.code.length (-1) 0 x.pot)&& true)=(_&& true)
  congr 1;unfold kM;rw[q3y hf hp hl];show decide _=decide _;have e:atI x.phi (-1)=0:=rfl;have e2:atI x.phi 0=vn x 0:=by unfold atI vn;rw[Xa (by omega)]
  rw[e,e2,Int.sub_zero]
 |n+1=>by
  show(Yb m f x S n++YM m f x S n).all (kM x)=_;rw[List.all_append,q8t hf hp hl hn n,qit hf hp hl (hn n),List.range_succ,List.all_append,Bool.and_assoc];simp
theorem qqt{m:za}{l:List (List zm)}{k:Nat}{x:zf}{S:List zm}(hm:zK m)(hx:m.methods[k]? =some x)(hS:l[k]? =some S)(hF:Jh m (k:Int) S):(Qx m l (k:Int)).all (kM x)= !ZO m l k:=by
 have hxm:=Xo hx;have hxf:=(hm.method hxm)
 have hxN:zu m (k:Int)=x:=by unfold zu;rw[Xe,hx];rfl
 rw[qhv hx,hS];show(Yb m k x S x.code.length).all (kM x)=_;rw[q8t hxf.ph (fun t ht=>hxf.fits.pt t ht) hxf.fits.cl]
 ·unfold ZO;rw[hxN,hS,Bool.not_not];rfl
 ·intro pc hs q hq;have hpl:pc<S.length:=by
   rcases Xj pc S.length with h|h
   ·exact h
   ·unfold zr at hs;rw[Xe,Xu h]at hs;cases hs
  have he:=(hF.2 pc hpl hs).1;obtain⟨ins,hi⟩:∃i,x.code[pc]? =some i:=⟨_,Xc (by rw[←hxN,←hF.1.len];exact hpl)⟩
  obtain⟨op,a,b⟩:=ins;have e1:=YD (st:=(zr S (pc:Int)).stack) hx hi;have:=q0m (m:=m) (st:=(zr S (pc:Int)).stack) (F:=0) (P:=pc) (hxf.fits.ct _ (Xo hi)) (hxf.co _ (Xo hi)) (by rw[←e1];exact he);rw[←e1]at this;exact(this q hq).1
end Go.Proofs.YtcmiljnbmgkdnaaGreat
