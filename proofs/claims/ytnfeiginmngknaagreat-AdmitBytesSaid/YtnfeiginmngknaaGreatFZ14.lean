import Derived.Test.YtnfeiginmngknaaGreatFZ13
import Derived.Test.YtnfeiginmngknaaGreatFZ06
namespace Go.Proofs.YtnfeiginmngknaaGreat
set_option maxRecDepth 100000
set_option linter.unusedVariables false
set_option linter.unusedSimpArgs false
open Go.ChangeShapes Go.WideShapes Go.ChangeAt Go.RowKit
def YY(m:za)(k:Nat):Bool:=(List.range k).all fun i=>match m.classes[i]? with
 |some x=>jG m (i:Int) x
 |none=>true
theorem q9l(m:za):YY m 0=true:=rfl
theorem q9m{m:za}{k:Nat}{x:zW}(hx:m.classes[k]? =some x):YY m (k+1)=(YY m k&& jG m (k:Int) x):=by
 unfold YY
 grind
theorem Lj{m:za}{k i:Nat}{x:zW}(h:YY m k=true)(hi:i<k)(hx:m.classes[i]? =some x):jG m (i:Int) x=true:=by
 have:=Xy.mp h i (by grind)
 grind
theorem qej{m:za}{k n:Nat}(h:YY m k=false)(hk:k<=n):YY m n=false:=by
 rw[X6]at h⊢
 intro g;refine h (Xy.mpr fun i hi=> ?_);exact Xy.mp g i (by grind)
theorem Im{m:za}{c:Int}{ab:List Int}:∀(l:List Int) (k:Nat),Yp m c ab k l=true->∀s ∈l,∃j,ZB m c ab j s=true
 | [],_,_,s,hs=>by simp at hs
 |a::r,k,h,s,hs=>by
  simp only[Yp,Xt]at h;rcases XZ.mp hs with rfl|hs
  ·grind
  ·exact Im r (k+1) h.2 s hs
theorem Pn{m:za}{c:Int}{ab:List Int}{k:Nat}{s:Int}(h:ZB m c ab k s=true):∃f,m.methods[s.toNat]? =some f/\0<f.args.length:=by
 unfold ZB at h
 grind
theorem Uq{m:za}{c:Int}{x:zW}(h:jG m c x=true):∀s ∈x.slots,∃f,m.methods[s.toNat]? =some f/\0<f.args.length:=fun s hs=>by
 unfold jG at h;simp only[Xt]at h
 grind [Im,Pn]
theorem qil{m:za}{i:Nat}{x:zW}(h:YY m i=true)(hs:x.sup<(i:Int)):∀q ∈Zw m x,∃g,m.methods[q.toNat]? =some g/\0<g.args.length:=fun q hq=>by
 unfold Zw at hq;split at hq
 ·rename_i h0;cases hy:m.classes[x.sup.toNat]? with
  |none=>grind
  |some y=>
   rw[hy]at hq;exact Uq (Lj h (show x.sup.toNat<i by omega) hy) q hq
 grind
def Vb{α:Type}(p:α->Bool)(l:List α)(k:Nat):Bool:=(l.take k).all p
theorem DR{α:Type}(p:α->Bool)(l:List α):Vb p l 0=true:=by simp[Vb]
theorem DT{α:Type}{p:α->Bool}{l:List α}{k:Nat}(hk:k<l.length):Vb p l (k+1)=(Vb p l k&& p l[k]):=by
 unfold Vb;rw[Xx,Xc hk,List.all_append];simp
theorem Et{α:Type}{p:α->Bool}{l:List α}{k:Nat}(hk:l.length<=k):Vb p l k=l.all p:=by
 unfold Vb;rw[XA hk]
theorem Ar{α:Type}{p:α->Bool}{l:List α}{k:Nat}(h:Vb p l k=false):l.all p=false:=by
 rw[X6]at h⊢
 intro g;exact h (Xy.mpr fun x hx=>Xy.mp g x (Wl hx))
def Zz(m:za)(n:Int):Bool:=match m.methods[n.toNat]? with
 |none=>false
 |some f=>(decide (f.ret.1=1)||decide (f.ret.1=5))&& f.args.all fun t=>decide (t.1=1)
theorem q94{m:za}{n:Nat}(h:m.methods.length<=n):Zz m (n:Int)=false:=by
 unfold Zz
 grind
theorem q92{m:za}{n:Nat}{f:zl}(h:m.methods[n]? =some f):Zz m (n:Int)=((decide (f.ret.1=1)||decide (f.ret.1=5))&& f.args.all fun t=>decide (t.1=1)):=by
 unfold Zz
 grind
def okB(m:za):Bool:=vC m.statics m.classes.length&& (YY m m.classes.length&& (m.methods.all (jK m)&& m.entries.all (Zz m)))
def jQ(m:za):Int:=if zV m=false then 2 else if okB m=true then 0 else 3
theorem Az{m:za}(h:zV m=false):jQ m=2:=Xb h
theorem Ey{m:za}(h:zV m=true)(g:okB m=true):jQ m=0:=by unfold jQ;grind
theorem mr{m:za}(h:zV m=true)(g:okB m=false):jQ m=3:=by unfold jQ;grind
structure zP(m:za):Prop where
 fits:LJ m
 st:∀t ∈m.statics,jl t.1 t.2 m.classes.length=true
 cls:∀(i:Nat) c,m.classes[i]? =some c->jG m (i:Int) c=true
 mth:∀x ∈m.methods,jK m x=true
theorem mW{m:za}(h:jQ m=0):zP m:=by
 have hf:zV m=true:=by
  cases hf:zV m with
  |true=>rfl
  |false=>rw[Az hf]at h;cases h
 have ho:okB m=true:=by
  cases ho:okB m with
  |true=>rfl
  |false=>rw[mr hf ho]at h;cases h
 unfold okB at ho;simp only[Xt]at ho;refine⟨ru hf,fun t ht=>Xy.mp ho.1 t ht,fun i c hc=>Lj ho.2.1 ?_ hc,fun x hx=>Xy.mp ho.2.2.1 x hx⟩;rcases Xl i m.classes.length with g|g
 ·exact g
 ·rw[XE g]at hc;cases hc
structure Md(m:za)(x:zl):Prop where
 fits:EX x
 at_:∀t ∈x.args,jl t.1 t.2 m.classes.length=true
 lt:∀t ∈x.locals,jl t.1 t.2 m.classes.length=true
 rt:x.ret=(5,0)\/jl x.ret.1 x.ret.2 m.classes.length=true
 cp:0<x.code.length
 ph:x.phi.length=x.code.length
 all:x.args.length+x.locals.length<=8
 co:∀i ∈x.code,zK m x i.1 i.2.1 i.2.2=true
theorem zP.method{m:za}(h:zP m){x:zl}(hx:x ∈m.methods):Md m x:=by
 have h1:=h.mth x hx;unfold jK at h1;simp only[Xt,Xw]at h1;obtain⟨a1,a2,a3,a4,a5,a6,a7⟩:=h1;unfold Qu at a3;refine⟨h.fits.mt x hx,fun t ht=>Xy.mp a1 t ht,fun t ht=>Xy.mp a2 t ht,?_,by omega,by omega,by omega,fun i hi=>Xy.mp a7 i hi⟩;rw[Wr,Xw]at a3;exact a3
theorem EP{w:World}{g:Nat}{n:Int}(hg:g<w.heap.size)(h:w.cell? ⟨g,0,none⟩=some (.int .i64 n)):zd zu 1 w w.heap.size (some ⟨g,0,none⟩) 1 [n]:=
 ⟨zn _,by omega,fun i t hi=>by
  match i,hi with
  |0,hi=>simp at hi;subst hi;exact⟨_,rfl,hg,h⟩
  |i+1,hi=>simp at hi⟩
def QO(m:za)(b:Int)(l:List Int):List Int:=l.filterMap fun k=>kP m.classes k b
def qC(m:za)(op a b:Int):List Int:=if op=31 then [a]else if op=32 then QO m b (YS m.classes a)else []
theorem Pk{m:za}{b:Int}{l:List Int}{k:Nat}(hk:k<l.length):QO m b (l.take (k+1))=QO m b (l.take k)++(kP m.classes l[k] b).toList:=by
 unfold QO;rw[Xx,Xc hk,List.filterMap_append];congr 1
theorem IA(m:za)(b:Int)(l:List Int):(QO m b l).length<=l.length:=List.length_filterMap_le _ _
theorem uP(h:zh)(m:za)(op a b:Int)(w:World):YW ((w.alloc (ze h m)).alloc (.cells #[.int .i64 op,.int .i64 a,.int .i64 b] 50)) w.heap.size h m/\
  zQ ((w.alloc (ze h m)).alloc (.cells #[.int .i64 op,.int .i64 a,.int .i64 b] 50)) (w.heap.size+1) [.int .i64 op,.int .i64 a,.int .i64 b]/\
  Below w.heap.size w ((w.alloc (ze h m)).alloc (.cells #[.int .i64 op,.int .i64 a,.int .i64 b] 50))/\((w.alloc (ze h m)).alloc (.cells #[.int .i64 op,.int .i64 a,.int .i64 b] 50)).heap.size=w.heap.size+2:=by
 have z0:(w.alloc (ze h m)).heap.size=w.heap.size+1:=by simp
 obtain⟨c1,z1,b1⟩:=Jf z0 [.int .i64 op,.int .i64 a,.int .i64 b] 50;exact⟨(qd w h m).keep b1 (by omega),c1,(zk (w:=w) (o:=(ze h m))).trans (b1.mono (by omega)),z1⟩
set_option maxHeartbeats 1600000 in
theorem q3d(m:za)(op a b:Int)(n31:¬op=31)(n32:¬op=32)(h:zh)(w:World):
  Calls Tryz.prog 42 #[zv h m,qt op a b] w (ZR (qC m op a b) w):=by
 have e0:qC m op a b=[]:=by unfold qC;rw[Xa n31,Xa n32]
 rw[e0];clear e0;obtain⟨hq,hc,hb,hz⟩:=uP h m op a b w;have HW:=zH hb;have HC:=zH hc;have HZ:=zH hz;clear hb hq hc hz;go_enter Tryz.func42,Tryz.ntmps42;go_upto_region 1 with fail
 generalize(w.alloc (ze h m)).alloc (.cells #[.int .i64 op,.int .i64 a,.int .i64 b] 50)=w1 at*
 have j0:=(HC.out.keep (zk (w:=w1) (o:=(.cells #[] 3))) (by have:=HZ.out;omega)) 0 _ rfl;go_wp2_with fail
 go_ret;exact⟨_,rfl,js (gM w1 _) HW.out.size,HW.out.trans ((zk (w:=w1)).mono HW.out.size)⟩
set_option maxHeartbeats 1600000 in
theorem q3e(m:za)(a b:Int)(h:zh)(w:World):
  Calls Tryz.prog 42 #[zv h m,qt 31 a b] w (ZR (qC m 31 a b) w):=by
 rw[show qC m 31 a b=[]++[a]from rfl];obtain⟨i0,hi,hz0,hz1,hz2⟩:=info_parts ZL;obtain⟨hq,hc,hb,hz⟩:=uP h m 31 a b w;have HW:=zH hb;have HC:=zH hc;have HZ:=zH hz;clear hb hq hc hz;go_enter Tryz.func42,Tryz.ntmps42;go_upto_region 1 with fail
 generalize(w.alloc (ze h m)).alloc (.cells #[.int .i64 31,.int .i64 a,.int .i64 b] 50)=w1 at*
 go_upto_region 2 with fail
 have HO:=zH (gM w1 3);have HX:=zH (zk (w:=w1) (o:=(.cells #[] 3)));generalize w1.alloc (.cells #[] 3)=w2 at*
 have hlt:w.heap.size+1<w1.heap.size:=by have:=HZ.out;omega
 have HL:=zH hlt;clear hlt;have j0:=(HC.out.keep HX.out HL.out) 0 _ rfl;have j1:=(HC.out.keep HX.out HL.out) 1 _ rfl;have hsz:=HX.out.size;go_wp2_with(first
  |(at_builtin;refine wpList_append_own _ rfl _ _ 27 rfl w1.heap.size 3 i0 (.int .i64 0) 1 8 Tryz.underlying27 hi hz0 hz1 hz2 rfl (by decide) _ _ _ rfl (HO.out.alloc _) ⟨_,0,none⟩ 1 1 [.int .i64 a] rfl rfl (AV _ _) (AC _) (by unfold maxLen;omega) (by omega) (by simp;omega) ?_;intro v' w3 hown' hgrow _;have hR:=o6 (pre:=[]) HO.out hsz HX.out hown' hgrow;have qa:=zH hR.1;have zp:=zH hR.2;have j0:=(HC.out.keep zp.out HL.out) 0 _ rfl;clear hown' hgrow hR))
 go_ret;exact⟨_,rfl,js qa.out HW.out.size,zD HW zp⟩
theorem q4j(x:zl)(hx:qH)(w:World)(ha:x.args.length<=1000)(hl:x.locals.length<=1000):
  Calls Tryz.prog 136 #[ZD hx x] w fun e w'=>e= .returned (.int .i64 ((x.args.length:Int)+(x.locals.length:Int)))/\Below w.heap.size w w':=by
 go_enter Tryz.func136,Tryz.ntmps136;go_wp2
 go_ret;exact⟨rfl,zk⟩
theorem Pp{P:Prop}(h:P:=by
 go_enter Tryz.func130,Tryz.ntmps130;go_wp2_with(go_at_call 163;(with_reducible refine(Ee _ _ _ _).mono ?_);rintro e w' ⟨he,hb⟩;rw[R.out]at he;subst he;obtain⟨q0,q1⟩:=C0.out _ hb)
 go_ret;exact⟨by rw[E2.out];rfl,HW.out.trans (hb.mono HW.out.size)⟩):P:=h
theorem q4i(k n c:Int)(w:World):Calls Tryz.prog 130 #[zF k n,.int .i64 c] w fun e w'=>e= .returned (.bool (Qu (k,n) c))/\Below w.heap.size w w':=by
 have HW:=zH (zk (w:=w) (o:=(.cells #[.int .i64 k,.int .i64 n] 45)));have c0:∀w',Below (w.alloc (.cells #[.int .i64 k,.int .i64 n] 45)).heap.size (w.alloc (.cells #[.int .i64 k,.int .i64 n] 45)) w'->w'.cell? ⟨w.heap.size,0,none⟩=some (.int .i64 k)/\w'.cell? ⟨w.heap.size,1,none⟩=some (.int .i64 n):=fun w' hb=>
  ⟨(hb.cell (p:=⟨w.heap.size,0,none⟩) (by simp)).trans (by simp_all),(hb.cell (p:=⟨w.heap.size,1,none⟩) (by simp)).trans (by simp_all)⟩
 have C0:=zH c0;clear c0;obtain⟨r,hr⟩:=zj (jl k n c);have R:=zH hr;have E:=zH (show Qu (k,n) c=(decide (k=5/\n=0)||r)by rw[<-hr];unfold Qu;grind);clear hr;cases r
 ·by_cases h5:k=5/\n=0
  ·obtain⟨rfl,rfl⟩:=h5;go_enter Tryz.func130,Tryz.ntmps130;go_wp2_with(go_at_call 163;(with_reducible refine(Ee _ _ _ _).mono ?_);rintro e w' ⟨he,hb⟩;rw[R.out]at he;subst he;obtain⟨q0,q1⟩:=C0.out _ hb)
   go_ret;exact⟨by rw[E.out];rfl,HW.out.trans (hb.mono HW.out.size)⟩
  ·have E2:=zH (show Qu (k,n) c=false by rw[E.out,Xf h5];rfl);have qE:¬k=5\/(k=5/\¬n=0):=by omega
   clear h5;rcases qE with qE|⟨rfl,qE⟩
   all_goals
    exact Pp
 ·have E2:=zH (show Qu (k,n) c=true by rw[E.out];simp);exact Pp
def rE(vs:List (List (Int×Int)))(c:Int):Bool:=vs.all fun l=>vC l c
set_option maxHeartbeats 1600000 in
theorem q3r(c:Int)(vs:List (List (Int×Int)))(A:Option Addr)(cap B:Nat)(w:World)(hB:B<=w.heap.size)(h:zd (zM zf 2) 1 w B A cap vs):
  Calls Tryz.prog 131 #[.int .i64 c,.slice A vs.length cap] w fun e w'=>e= .returned (.bool (rE vs c))/\Below w.heap.size w w':=by
 have hlc:=h.le;have hcm:=h.cap;have HL:=zH h;have HB:=zH hB;obtain⟨b,hb⟩:=zj (rE vs c);rw[hb];have E:=zH hb.symm;clear h hB hb;go_enter Tryz.func131,Tryz.ntmps131;go_wp2
 go_loopw [11] (fun i wr=>∃k:Nat,k<=vs.length/\i= .int .i64 k/\Hid (∀l ∈vs.take k,vC l c=true)/\Hid (Below w.heap.size w wr)) (fun i _=>vs.length - (intOf i).toNat)
 case atStart=>grind [zH,zb]
 case round=>
  obtain⟨k,hk,rfl,HN,HX⟩:=hrel;by_cases hlt:k<vs.length
  ·obtain⟨ad,rfl,hab,A1,k1,q0,hq1⟩:=HL.out.row.at_ hlt;rw[Xq]at q0;have q0:=(HX.out.cell (p:=ad.add k) (by rw[zC];exact Xp hab HB.out)).trans q0;have qz:=zH (fun g:vC vs[k] c=false=>(JP hlt g:rE vs c=false));have HYE:=zH (fun g:vC vs[k] c=true=>Jk hlt HN.out g);generalize vs[k]=l at*
   have HT:=zH hq1;have hl1:=hq1.le;have hl2:=hq1.cap;clear hq1;go_wp2_with fail
   go_loopw [17] (fun i wr=>∃k2:Nat,k2<=l.length/\i= .int .i64 k2/\Hid (∀t ∈l.take k2,jl t.1 t.2 c=true)/\Hid (Below w.heap.size w wr)) (fun i _=>l.length - (intOf i).toNat)
   case atStart=>grind [zH]
   case round=>
    clear q0;obtain⟨k2,hk2,rfl,qo,HX2⟩:=hrel;by_cases hlt2:k2<l.length
    ·obtain⟨Ye,rfl,yn,r0,r1⟩:=(HT.out.below_to zf.keeps HX2.out HB.out).row.at_ hlt2;have qlh:=zH (fun g:(fun t:Int×Int=>jl t.1 t.2 c) l[k2]=false=>(JP hlt2 g:vC l c=false));have qmn:=zH (fun g:(fun t:Int×Int=>jl t.1 t.2 c) l[k2]=true=>Jk hlt2 qo.out g);generalize l[k2]=t at*
     obtain⟨x,y⟩:=t;dsimp only at r0 r1;obtain⟨g,hg⟩:=zj (jl x y c);have G:=zH hg;clear hg;have HA:=zH (HX2.out.alloc HX2.out.size (.cells #[.int .i64 x,.int .i64 y] 45));cases g
     ·have E2:=zH (show b=false from E.out.trans (qz.out (qlh.out G.out)));go_wp2_with(go_at_call 163;(with_reducible refine(Ee _ _ _ _).mono ?_);rintro e w3 ⟨he,hb⟩;rw[G.out]at he;subst he;have zp:=zi HA hb;clear hb)
      go_ret;exact⟨by rw[E2.out];rfl,zp.out⟩
     ·go_wp2_with(go_at_call 163;(with_reducible refine(Ee _ _ _ _).mono ?_);rintro e w3 ⟨he,hb⟩;rw[G.out]at he;subst he;have zp:=zi HA hb;clear hb)
      go_roundw;case rel=>exact⟨k2+1,by omega,by go_num,zH (qmn.out G.out),zp⟩
      case measure=>simp[intOf];omega
    ·have HY:=zH (HYE.out (JQ (l:=l) qo.out (by omega)));go_wp2_with fail
     go_roundw;case rel=>exact⟨k+1,by omega,by go_num,HY,HX2⟩
     case measure=>simp[intOf];omega
  ·have E2:=zH (show b=true from E.out.trans (JQ HN.out (by omega)));go_wp2_with fail
   go_ret;exact⟨by rw[E2.out];rfl,HX.out⟩
def supB(cl:List zW)(i:Nat):Bool:=match cl[i]? with
 |some c=>decide (c.sup<(i:Int))
 |none=>true
def Yy(cl:List zW):Bool:=(List.range cl.length).all (supB cl)
theorem AQ{cl:List zW}{i:Nat}{c:zW}(h:Yy cl=true)(hc:cl[i]? =some c):c.sup<(i:Int):=by
 obtain⟨hi,_⟩:=Xv.mp hc;have:=Xy.mp h i (by grind);unfold supB at this
 grind
theorem qfo{cl:List zW}{i:Nat}{c:zW}(hc:cl[i]? =some c)(h:¬c.sup<(i:Int)):Yy cl=false:=by
 rw[X6];exact fun g=>h (AQ g hc)
set_option maxHeartbeats 1600000 in
theorem q4h(cl:List zW)(A:Option Addr)(cap B:Nat)(w:World)(hB:B<=w.heap.size)(h:zd vw 3 w B A cap cl):
  Calls Tryz.prog 99 #[.slice A cl.length cap] w fun e w'=>e= .returned (.bool (Yy cl))/\Below w.heap.size w w':=by
 have hlc:=h.le;have hcm:=h.cap;have HL:=zH h;have HB:=zH hB;obtain⟨b,hb⟩:=zj (Yy cl);rw[hb];have E:=zH hb.symm;clear h hB hb;go_enter Tryz.func99,Tryz.ntmps99;go_wp2
 go_loopw [7] (fun i wr=>∃k:Nat,k<=cl.length/\i= .int .i64 k/\Hid (∀i<k,supB cl i=true)/\Hid (Below w.heap.size w wr)) (fun i _=>cl.length - (intOf i).toNat)
 case atStart=>grind [zH,zb]
 case round=>
  obtain⟨k,hk,rfl,HN,HX⟩:=hrel;by_cases hlt:k<cl.length
  ·obtain⟨ad,rfl,hab,hc⟩:=(HL.out.below_to vw.keeps HX.out HB.out).row.at_ hlt;have HG:=zH (Xc hlt);generalize cl[k]=c at*
   obtain⟨s0,⟨A1,k1,s1,hs1⟩,⟨A2,k2,s2,hs2⟩,sr⟩:=hc;clear hs1 hs2;have HA:=zH (HX.out.alloc HX.out.size (.cells #[.int .i64 c.sup,.slice A1 c.fields.length k1,.slice A2 c.slots.length k2] 60));by_cases hc:c.sup<(k:Int)
   ·have HY:Hid (∀i<k+1,supB cl i=true):=zH (fun i hi=>by
     by_cases e:i=k
     ·subst e;unfold supB;rw[HG.out];grind
     ·exact HN.out i (by omega))
    have hc':¬(k:Int)<=c.sup:=by omega
    go_wp2_with fail
    go_roundw;case rel=>exact⟨k+1,by omega,by go_num,HY,HA⟩
    case measure=>simp[intOf];omega
   ·have E2:=zH (show b=false from E.out.trans (qfo HG.out hc));have hc':(k:Int)<=c.sup:=by omega
    go_wp2_with fail
    go_ret;exact⟨by rw[E2.out];rfl,HA.out⟩
  ·have E2:=zH (show b=true from E.out.trans (Xy.mpr fun i hi=>HN.out i (by grind)));go_wp2_with fail
   go_ret;exact⟨by rw[E2.out];rfl,HX.out⟩
