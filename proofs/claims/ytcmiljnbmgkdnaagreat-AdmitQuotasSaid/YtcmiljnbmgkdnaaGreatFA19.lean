import Derived.Test.YtcmiljnbmgkdnaaGreatFA18
import Derived.Test.YtcmiljnbmgkdnaaGreatFA12
import Derived.Test.YtcmiljnbmgkdnaaGreatFA11
import Derived.Test.YtcmiljnbmgkdnaaGreatFA06
import Derived.Maps.AppendAt
namespace Go.Proofs.YtcmiljnbmgkdnaaGreat
set_option maxRecDepth 100000
set_option linter.unusedVariables false
set_option linter.unusedSimpArgs false
open Go.ChangeShapes Go.WideShapes Go.ChangeAt Go.RowKit
def vV(m:za)(k:Nat):Bool:=(List.range k).all fun i=>match m.classes[i]? with
 |some x=>qs m (i:Int) x
 |none=>true
theorem qkv(m:za):vV m 0=true:=rfl
theorem qkw{m:za}{k:Nat}{x:zO}(hx:m.classes[k]? =some x):vV m (k+1)=(vV m k&& qs m (k:Int) x):=by
 unfold vV;rw[List.range_succ,List.all_append];simp[hx]
theorem q5o{m:za}{k i:Nat}{x:zO}(h:vV m k=true)(hi:i<k)(hx:m.classes[i]? =some x):qs m (i:Int) x=true:=by
 have:=Xy.mp h i (XQ.mpr hi);rw[hx]at this;exact this
theorem qpd{m:za}{k n:Nat}(h:vV m k=false)(hk:k≤n):vV m n=false:=by
 rw[X9]at h⊢
 intro g;refine h (Xy.mpr fun i hi=> ?_);exact Xy.mp g i (XQ.mpr (Xp (XQ.mp hi) hk))
theorem q38{m:za}{c:Int}{ab:List Int}:∀(l:List Int) (k:Nat),vB m c ab k l=true→∀s ∈l,∃j,vk m c ab j s=true
 | [],_,_,s,hs=>by simp at hs
 |a::r,k,h,s,hs=>by
  simp only[vB,Xv]at h;rcases Xz.mp hs with rfl|hs
  ·exact⟨k,h.1⟩
  ·exact q38 r (k+1) h.2 s hs
theorem q74{m:za}{c:Int}{ab:List Int}{k:Nat}{s:Int}(h:vk m c ab k s=true):∃f,m.methods[s.toNat]? =some f∧0<f.args.length:=by
 unfold vk at h;cases hf:m.methods[s.toNat]? with
 |none=>rw[hf]at h;simp at h
 |some f=>
  rw[hf]at h;cases ha:f.args with
  |nil=>dsimp only at h;rw[ha]at h;simp at h
  |cons t r=>exact⟨f,rfl,by rw[ha];simp⟩
theorem qbr{m:za}{c:Int}{x:zO}(h:qs m c x=true):∀s ∈x.slots,∃f,m.methods[s.toNat]? =some f∧0<f.args.length:=fun s hs=>by
 unfold qs at h;simp only[Xv]at h;obtain⟨j,hj⟩:=q38 _ _ h.2.2.2.2 s hs;exact q74 hj
theorem qt0{m:za}{i:Nat}{x:zO}(h:vV m i=true)(hs:x.sup<(i:Int)):∀q ∈vu m x,∃g,m.methods[q.toNat]? =some g∧0<g.args.length:=fun q hq=>by
 unfold vu at hq;split at hq
 ·rename_i h0;cases hy:m.classes[x.sup.toNat]? with
  |none=>rw[hy]at hq;simp at hq
  |some y=>
   rw[hy]at hq;exact qbr (q5o h (show x.sup.toNat<i by omega) hy) q hq
 ·simp at hq
def Zx{α:Type}(p:α→Bool)(l:List α)(k:Nat):Bool:=(l.take k).all p
theorem q1r{α:Type}(p:α→Bool)(l:List α):Zx p l 0=true:=by simp[Zx]
theorem q1s{α:Type}{p:α→Bool}{l:List α}{k:Nat}(hk:k<l.length):Zx p l (k+1)=(Zx p l k&& p l[k]):=by
 unfold Zx;rw[XA,Xc hk,List.all_append];simp
theorem q2d{α:Type}{p:α→Bool}{l:List α}{k:Nat}(hk:l.length≤k):Zx p l k=l.all p:=by
 unfold Zx;rw[XH hk]
theorem q0b{α:Type}{p:α→Bool}{l:List α}{k:Nat}(h:Zx p l k=false):l.all p=false:=by
 rw[X9]at h⊢
 intro g;exact h (Xy.mpr fun x hx=>Xy.mp g x (List.mem_of_mem_take hx))
def vw(m:za)(n:Int):Bool:=match m.methods[n.toNat]? with
 |none=>false
 |some f=>(decide (f.ret.1=1)||decide (f.ret.1=5))&& f.args.all fun t=>decide (t.1=1)
theorem qkf{m:za}{n:Nat}(h:m.methods.length≤n):vw m (n:Int)=false:=by
 unfold vw;rw[Xe,Xu h]
theorem qkd{m:za}{n:Nat}{f:zf}(h:m.methods[n]? =some f):vw m (n:Int)=((decide (f.ret.1=1)||decide (f.ret.1=5))&& f.args.all fun t=>decide (t.1=1)):=by
 unfold vw;rw[Xe,h]
def okB(m:za):Bool:=js m.statics m.classes.length&& (vV m m.classes.length&& (m.methods.all (qu m)&& m.entries.all (vw m)))
def qK(m:za):Int:=if zT m=false then 2 else if okB m=true then 0 else 3
theorem q0d{m:za}(h:zT m=false):qK m=2:=Xb h
theorem q2h{m:za}(h:zT m=true)(g:okB m=true):qK m=0:=by unfold qK;rw[Xa (by rw[h];decide),Xb g]
theorem Ya{m:za}(h:zT m=true)(g:okB m=false):qK m=3:=by unfold qK;rw[Xa (by rw[h];decide),Xa (by rw[g];decide)]
structure zK(m:za):Prop where
 fits:q68 m
 st:∀t ∈m.statics,qA t.1 t.2 m.classes.length=true
 cls:∀(i:Nat) c,m.classes[i]? =some c→qs m (i:Int) c=true
 mth:∀x ∈m.methods,qu m x=true
theorem JE{m:za}(h:qK m=0):zK m:=by
 have hf:zT m=true:=by
  cases hf:zT m with
  |true=>rfl
  |false=>rw[q0d hf]at h;cases h
 have ho:okB m=true:=by
  cases ho:okB m with
  |true=>rfl
  |false=>rw[Ya hf ho]at h;cases h
 unfold okB at ho;simp only[Xv]at ho;refine⟨q0n hf,fun t ht=>Xy.mp ho.1 t ht,fun i c hc=>q5o ho.2.1 ?_ hc,fun x hx=>Xy.mp ho.2.2.1 x hx⟩;rcases Xj i m.classes.length with g|g
 ·exact g
 ·rw[Xu g]at hc;cases hc
structure q6m(m:za)(x:zf):Prop where
 fits:q67 x
 at_:∀t ∈x.args,qA t.1 t.2 m.classes.length=true
 lt:∀t ∈x.locals,qA t.1 t.2 m.classes.length=true
 rt:x.ret=(5,0)∨qA x.ret.1 x.ret.2 m.classes.length=true
 cp:0<x.code.length
 ph:x.phi.length=x.code.length
 all:x.args.length+x.locals.length≤8
 co:∀i ∈x.code,zC m x i.1 i.2.1 i.2.2=true
theorem zK.method{m:za}(h:zK m){x:zf}(hx:x ∈m.methods):q6m m x:=by
 have h1:=h.mth x hx;unfold qu at h1;simp only[Xv,Xr]at h1;obtain⟨a1,a2,a3,a4,a5,a6,a7⟩:=h1;unfold vY at a3;refine⟨h.fits.mt x hx,fun t ht=>Xy.mp a1 t ht,fun t ht=>Xy.mp a2 t ht,?_,by omega,by omega,by omega,fun i hi=>Xy.mp a7 i hi⟩;rw[We,Xr]at a3;exact a3
theorem q2o{w:World}{g:Nat}{n:Int}(hg:g<w.heap.size)(h:w.cell? ⟨g,0,none⟩=some (.int .i64 n)):zd zq 1 w w.heap.size (some ⟨g,0,none⟩) 1 [n]:=
 ⟨zn _,by omega,fun i t hi=>by
  match i,hi with
  |0,hi=>simp at hi;subst hi;exact⟨_,rfl,hg,h⟩
  |i+1,hi=>simp at hi⟩
def kf(m:za)(b:Int)(l:List Int):List Int:=l.filterMap fun k=>jK m.classes k b
def qk(m:za)(op a b:Int):List Int:=if op=31 then [a]else if op=32 then kf m b (Zp m.classes a)else []
theorem q71{m:za}{b:Int}{l:List Int}{k:Nat}(hk:k<l.length):kf m b (l.take (k+1))=kf m b (l.take k)++(jK m.classes l[k] b).toList:=by
 unfold kf;rw[XA,Xc hk,List.filterMap_append];congr 1
theorem q3h(m:za)(b:Int)(l:List Int):(kf m b l).length≤l.length:=List.length_filterMap_le _ _
theorem Vj(h:zg)(m:za)(op a b:Int)(w:World):Zs ((w.alloc (zo h m)).alloc (.cells #[.int .i64 op,.int .i64 a,.int .i64 b] 55)) w.heap.size h m∧
  zW ((w.alloc (zo h m)).alloc (.cells #[.int .i64 op,.int .i64 a,.int .i64 b] 55)) (w.heap.size+1) [.int .i64 op,.int .i64 a,.int .i64 b]∧
  Below w.heap.size w ((w.alloc (zo h m)).alloc (.cells #[.int .i64 op,.int .i64 a,.int .i64 b] 55))∧((w.alloc (zo h m)).alloc (.cells #[.int .i64 op,.int .i64 a,.int .i64 b] 55)).heap.size=w.heap.size+2:=by
 have z0:(w.alloc (zo h m)).heap.size=w.heap.size+1:=by simp
 obtain⟨c1,z1,b1⟩:=kr z0 [.int .i64 op,.int .i64 a,.int .i64 b] 55;exact⟨(zX w h m).keep b1 (by omega),c1,((zb w.heap.size w).alloc (zn _) (zo h m)).trans (b1.mono (by omega)),z1⟩
set_option maxHeartbeats 1600000 in
theorem qf1(m:za)(op a b:Int)(n31:¬op=31)(n32:¬op=32)(h:zg)(w:World):
  Calls Tryz.prog 47 #[zk h m,zz op a b] w (vJ (qk m op a b) w):=by
 have e0:qk m op a b=[]:=by unfold qk;rw[Xa n31,Xa n32]
 rw[e0];clear e0;obtain⟨hq,hc,hb,hz⟩:=Vj h m op a b w;have HW:=zH hb;have HC:=zH hc;have HZ:=zH hz;clear hb hq hc hz;go_enter Tryz.func47,Tryz.ntmps47;go_upto_region 1 with fail
 generalize(w.alloc (zo h m)).alloc (.cells #[.int .i64 op,.int .i64 a,.int .i64 b] 55)=w1 at*
 have j0:=(HC.out.keep ((zb w1.heap.size w1).alloc (zn _) (.cells #[] 3)) (by have:=HZ.out;omega)) 0 _ rfl;go_wp2_with fail
 go_ret;exact⟨_,rfl,jc (Jn w1 _) HW.out.size,HW.out.trans (((zb w1.heap.size w1).alloc (zn _) _).mono HW.out.size)⟩
set_option maxHeartbeats 1600000 in
theorem qf2(m:za)(a b:Int)(h:zg)(w:World):
  Calls Tryz.prog 47 #[zk h m,zz 31 a b] w (vJ (qk m 31 a b) w):=by
 rw[show qk m 31 a b=[]++[a]from rfl];obtain⟨i0,hi,hz0,hz1,hz2⟩:=info_parts vD;obtain⟨hq,hc,hb,hz⟩:=Vj h m 31 a b w;have HW:=zH hb;have HC:=zH hc;have HZ:=zH hz;clear hb hq hc hz;go_enter Tryz.func47,Tryz.ntmps47;go_upto_region 1 with fail
 generalize(w.alloc (zo h m)).alloc (.cells #[.int .i64 31,.int .i64 a,.int .i64 b] 55)=w1 at*
 go_upto_region 2 with fail
 have HO:=zH (Jn w1 3);have HX:=zH ((zb w1.heap.size w1).alloc (zn _) (.cells #[] 3));generalize w1.alloc (.cells #[] 3)=w2 at*
 have hlt:w.heap.size+1<w1.heap.size:=by have:=HZ.out;omega
 have HL:=zH hlt;clear hlt;have j0:=(HC.out.keep HX.out HL.out) 0 _ rfl;have j1:=(HC.out.keep HX.out HL.out) 1 _ rfl;have hsz:=HX.out.size;go_wp2_with(first
  |(at_builtin;refine wpList_append_own _ rfl _ _ 26 rfl w1.heap.size 3 i0 (.int .i64 0) 1 8 Tryz.underlying26 hi hz0 hz1 hz2 rfl (by decide) _ _ _ rfl (HO.out.alloc _) ⟨_,0,none⟩ 1 1 [.int .i64 a] rfl rfl (q0l _ _) (q0f _) (by unfold maxLen;omega) (by omega) (by simp;omega) ?_;intro v' w3 hown' hgrow _;have hR:=Yy (pre:=[]) HO.out hsz HX.out hown' hgrow;have HO3:=zH hR.1;have HX3:=zH hR.2;have j0:=(HC.out.keep HX3.out HL.out) 0 _ rfl;clear hown' hgrow hR))
 go_ret;exact⟨_,rfl,jc HO3.out HW.out.size,HW.out.trans (HX3.out.mono HW.out.size)⟩
def jM(m:za)(p g:Int):Int:=if(zu m g).pot>p then(zu m g).pot else p
def qH(m:za)(L:List Int):Int:=L.foldl (jM m) 0
theorem q5g{m:za}{L:List Int}{k:Nat}(hk:k<L.length):qH m (L.take (k+1))=jM m (qH m (L.take k)) L[k]:=by
 unfold qH;rw[XA,Xc hk,Wj];rfl
def kh(m:za)(op a b:Int):Int:=if op=22 then 1+(zV m.classes a).length else if op=23 then 1+a else qH m (qk m op a b)
theorem q4u{m:za}{x:zf}{a b:Int}{op:Int}(ho:op=3∨op=4)(h:zC m x op a b=true):a<x.args.length+x.locals.length:=by
 rcases ho with rfl|rfl<;>simpa[zC]using h
theorem Yt{m:za}{x:zf}{a b:Int}{op:Int}(ho:op=29∨op=30)(h:zC m x op a b=true):a<m.statics.length:=by
 rcases ho with rfl|rfl<;>simpa[zC]using h
theorem q7v{m:za}{x:zf}{a b:Int}{op:Int}(ho:op=22∨op=34)(h:zC m x op a b=true):a<m.classes.length:=by
 rcases ho with rfl|rfl<;>simpa[zC]using h
theorem Yw{m:za}{x:zf}{a b:Int}{op:Int}(ho:op=27∨op=28)(h:zC m x op a b=true):a<m.classes.length∧b<(zV m.classes a).length:=by
 rcases ho with rfl|rfl<;>simpa[zC]using h
theorem q96{m:za}{x:zf}{a b:Int}{op:Int}(ho:op=18∨op=19)(h:zC m x op a b=true):a<x.code.length:=by
 rcases ho with rfl|rfl<;>simpa[zC]using h
theorem YA{m:za}{x:zf}{a b:Int}(h:zC m x 31 a b=true):a<m.methods.length:=by simpa[zC]using h
theorem Yz{m:za}{x:zf}{a b:Int}(hm:zK m)(a0:0≤a)(b0:0≤b)(h:zC m x 32 a b=true):
  a<m.classes.length∧∃(k:Nat) (y:zf),jK m.classes a b=some (k:Int)∧m.methods[k]? =some y∧0<y.args.length:=by
 simp[zC]at h;obtain⟨h1,h2⟩:=h;obtain⟨i,rfl⟩:=Xm a0;obtain⟨j,rfl⟩:=Xm b0;have hi:i<m.classes.length:=by omega
 unfold Yf at h2;rw[Xe,Xc hi]at h2;dsimp only at h2;have hj:j<m.classes[i].slots.length:=by omega
 have hc:=hm.cls i _ (Xc hi);obtain⟨y,hy,ha⟩:=qbr hc _ (Xd hj);have hs:=((hm.fits.ct _ (Xd hi)).st _ (Xd hj)).1;obtain⟨k,hk⟩:=Xm hs;refine⟨h1,k,y,by rw[q3w hi hj,hk],?_,ha⟩;rw[hk,Xe]at hy;exact hy
theorem qqu(m:za)(x:zf)(f:Nat)(op a b:Int)(h:zg)(w:World)(H:zi w w.heap.size h m)(hm:zK m)(hg:m.methods[f]? =some x)(hi:qp op a b=true)(hn:zC m x op a b=true):
  Calls Tryz.prog 101 #[zk h m,.int .i64 f,zz op a b] w (jB (zB m x op a b) (zy m x op a b) w):=by
 obtain⟨o0,o1,a0,a1,b0,b1⟩:=Qn hi;have hx:=hm.method (Xo hg);have hal:x.args.length≤1048576:=by have:=hx.fits.al;omega
 have hll:x.locals.length≤1048576:=by have:=hx.fits.ll;omega
 have hcl:m.classes.length≤1000:=by have:=hm.fits.cl;omega
 have hfl:∀c ∈m.classes,c.fields.length≤1000:=fun c hc=>by have:=(hm.fits.ct c hc).fl;omega
 by_cases hmath:7≤op∧op≤17
 ·exact qmp m x f op a b hmath.1 hmath.2 h w H
 ·have hc:op=1∨op=2∨op=3∨op=4∨op=5∨op=6∨op=18∨op=19∨op=20∨op=21∨op=22∨op=23∨op=24∨op=25∨op=26∨op=27∨op=28∨op=29∨op=30∨op=31∨op=32∨op=33∨op=34:=by omega
  rcases hc with rfl|rfl|rfl|rfl|rfl|rfl|rfl|rfl|rfl|rfl|rfl|rfl|rfl|rfl|rfl|rfl|rfl|rfl|rfl|rfl|rfl|rfl|rfl
  ·exact rule_1 m x f a b h w
  ·exact rule_2 m x f a b h w
  ·exact rule_3 m x f a b hg hal hll (by omega) h w H
  ·exact rule_4 m x f a b hg hal hll (by omega) h w H
  ·exact rule_5 m x f a b h w
  ·exact rule_6 m x f a b h w
  ·exact qtz m x f a b h w
  ·exact qty m x f a b h w
  ·exact qtx m x f a b h w
  ·exact qtw m x f a b h w
  ·exact qtv m x f a b h w
  ·exact qtu m x f a b h w
  ·exact qtt m x f a b h w
  ·exact qts m x f a b h w
  ·exact qtr m x f a b h w
  ·obtain⟨k,rfl⟩:=Xm b0;exact qtq m x f a k (by have:=(Yw (op:=27) (by omega) hn).2;omega) hcl hfl h w H
  ·obtain⟨k,rfl⟩:=Xm b0;exact qtp m x f a k (by have:=(Yw (op:=28) (by omega) hn).2;omega) hcl hfl h w H
  ·obtain⟨j,rfl⟩:=Xm a0;exact qto m x f j b (by have:=Yt (op:=29) (by omega) hn;omega) h w H
  ·obtain⟨j,rfl⟩:=Xm a0;exact qtn m x f j b (by have:=Yt (op:=30) (by omega) hn;omega) h w H
  ·obtain⟨j,rfl⟩:=Xm a0;exact qtm m x f j b (by have:=YA hn;omega) h w H
  ·obtain⟨_,k,y,hs,hy,hp⟩:=Yz hm a0 b0 hn;exact qtl m x f a b k hs y hy hp (by have:=(hm.method (Xo hy)).fits.al;omega) h w H
  ·exact qtk m x f a b hg hal hll h w H
  ·exact qtj m x f a b h w
def q6j(r:QK)(w:World)(e:Ending)(w':World):Prop:=
 ∃A c A' c',e= .returned (.tuple #[.slice A r.after.length c,.slice A' r.next.length c',.int .i64 r.err])∧zd zh 2 w' w'.heap.size A c r.after∧zd zq 1 w' w'.heap.size A' c' r.next∧Below w.heap.size w w'
def Jz(r:QK)(w:World)(e:Ending)(w':World):Prop:=
 ∃A c A' c',e= .returned (.tuple #[.slice A r.after.length c,.slice A' r.next.length c',.int .i64 r.err])∧zd zh 2 w' w'.heap.size A c r.after∧zd zq 1 w' w'.heap.size A' c' r.next∧Below w.heap.size w w'∧∀ad,A'=some ad→w.heap.size≤ad.block
theorem Jz.is{r:QK}{w:World}{e:Ending}{w':World}(h:Jz r w e w'):q6j r w e w':=by
 obtain⟨A,c,A',c',h1,h2,h3,h4,_⟩:=h;exact⟨A,c,A',c',h1,h2,h3,h4⟩
theorem Jl(n:Int){w w':World}(hb:Below w.heap.size w w'):Jz (qw n) w (.returned (.tuple #[.slice none 0 0,.slice none 0 0,.int .i64 n])) w':=
 ⟨none,0,none,0,rfl,⟨zn _,by omega,fun i t hi=>by simp[qw]at hi⟩,⟨zn _,by omega,fun i t hi=>by simp[qw]at hi⟩,hb,fun ad e=>by cases e⟩
def vC(sup:List Int)(op:Int)(TK GV:List (Int×Int))(nl:List Int)(st:List (Int×Int)):QK:=
 if st.length<TK.length∨8<st.length - TK.length+GV.length then qw 4 else
 if((st.drop (st.length - TK.length)).zip TK).all (fun p=>jo sup op p.1 p.2)=true then⟨st.take (st.length - TK.length)++GV,nl,0⟩else qw 4
theorem q4i{m:za}{x:zf}{pc a b:Int}:qx m x pc 6 a b []=qw 4:=by
 unfold qx;split
 ·rfl
 ·rw[Xb (Or.inl ⟨rfl,rfl⟩)]
theorem q02{m:za}{x:zf}{pc op a b:Int}{st:List (Int×Int)}(h:¬(qE pc op a).head?.any (fun n=>decide ((x.code.length:Int)≤n))=true)(h6:¬(op=6∧st=[])):
  qx m x pc op a b st=vC (zt m.classes) op (takes m x op a b st) (vM m x op a b st) (qE pc op a) st:=by
 unfold qx vC;rw[Xa h];by_cases g:st.length<(takes m x op a b st).length∨8<st.length - (takes m x op a b st).length+(vM m x op a b st).length
 ·rw[Xb (Or.inr g),Xb g]
 ·rw[Xa g,Xa (fun q=>q.elim h6 g)]
theorem QU(w:World)(T:TypeId)(vs us:List Value):zW ((w.alloc (.cells vs.toArray T)).alloc (.cells us.toArray T)).drew w.heap.size vs∧zW ((w.alloc (.cells vs.toArray T)).alloc (.cells us.toArray T)).drew (w.heap.size+1) us∧
  Below w.heap.size w ((w.alloc (.cells vs.toArray T)).alloc (.cells us.toArray T)).drew∧w.heap.size<((w.alloc (.cells vs.toArray T)).alloc (.cells us.toArray T)).drew.heap.size∧w.heap.size+1<((w.alloc (.cells vs.toArray T)).alloc (.cells us.toArray T)).drew.heap.size:=by
 have z1:(w.alloc (.cells vs.toArray T)).heap.size=w.heap.size+1:=by simp
 have z2:((w.alloc (.cells vs.toArray T)).alloc (.cells us.toArray T)).drew.heap.size=w.heap.size+2:=by simp
 have hb:Below (w.heap.size+1) (w.alloc (.cells vs.toArray T)) ((w.alloc (.cells vs.toArray T)).alloc (.cells us.toArray T)).drew:=((zb _ _).alloc (by omega) _).drew;have h2:=qa (w.alloc (.cells vs.toArray T)) us T;rw[z1]at h2;exact⟨(qa w vs T).keep hb (by omega),h2,((zb _ _).alloc (zn _) _).trans (hb.mono (by omega)),by omega,by omega⟩
theorem q85(x:zf):(qR x).length≤2:=by
 unfold qR;split
 ·exact Xl _
 ·exact Nat.le_succ _
theorem qug{c:Prop}[Decidable c]{A B:List (Int×Int)}(hA:A.length≤2)(hB:B.length≤2):(if c then A else B).length≤2:=by
 by_cases g:c
 ·rw[Xb g];exact hA
 ·rw[Xa g];exact hB
theorem q9i(m:za)(x:zf)(op a b:Int):(zy m x op a b).length≤2:=by
 unfold zy
 repeat' apply qug
 all_goals first|exact q85 _|exact Xl _|exact Nat.le_succ _|exact zn _
theorem qtd{sup:List Int}{op:Int}{TK GV:List (Int×Int)}{nl:List Int}{st:List (Int×Int)}{d:Nat}(hd:st.length - TK.length=d)(h0:¬st.length<TK.length)(h:¬8<d+GV.length):
  vC sup op TK GV nl st=if((st.drop d).zip TK).all (fun p=>jo sup op p.1 p.2)=true then⟨st.take d++GV,nl,0⟩else qw 4:=by unfold vC;rw[hd,Xa (fun q=>q.elim h0 h)]
theorem qse{sup:List Int}{op t0 t1 u1:Int}:jo sup op (t0,t1) (0,u1)=true:=by unfold jo;rw[Xb rfl]
theorem q0h{sup:List Int}{op t0 t1 u1:Int}:jo sup op (t0,t1) (4,u1)=(vh t0&& !(decide (op=34)&& decide (t0=2))):=by unfold jo;rw[Xa (show ¬(4:Int)=0 by decide),Xb rfl]
theorem qsd{sup:List Int}{op t0 t1 u0 u1:Int}(h0:¬u0=0)(h4:¬u0=4):jo sup op (t0,t1) (u0,u1)=zw sup t0 t1 u0 u1:=by unfold jo;rw[Xa h0,Xa h4]
theorem qef{t0 t1:Int}{w:World}{r:Bool}(HR:Hid (vh t0=r)):Calls Tryz.prog 102 #[zA t0 t1] w fun e w'=>e= .returned (.bool r)∧Below w.heap.size w w':=by
 have H:=q8v t0 t1 w;rw[HR.out]at H;exact H
theorem q8k{m:za}{h:zg}{x y t0 t1:Int}{w0 w:World}{r:Bool}(HI:Hid (zi w0 w0.heap.size h m))(HX:Hid (Below w0.heap.size w0 w))(HN:Hid (m.classes.length≤1000))(HR:Hid (zw (zt m.classes) x y t0 t1=r)):
  Calls Tryz.prog 98 #[.slice h.A0 m.classes.length h.c0,zA x y,zA t0 t1] w fun e w'=>e= .returned (.bool r)∧Below w.heap.size w w':=by
 have H:=Jq (zt m.classes) x y t0 t1 h.A0 h.c0 w.heap.size w (by rw[jS];have:=HN.out;omega) (zn _) (Qp (HI.out.now HX.out).classes.row);rw[HR.out,jS]at H;exact H
theorem qco(w:World)(v:Value)(T:TypeId):(w.alloc (.cells #[v] T)).ownsRow w.heap.size T 1 (.slice (some ⟨w.heap.size,0,none⟩) 1 1) 1 [v]:=
 ⟨rfl,.inr ⟨w.heap.size,1,#[v],rfl,zn _,XO _ _,zn _,by unfold maxLen;omega,rfl,rfl⟩⟩
def zF(sup:List Int)(s t:List (Int×Int)):Prop:=s.length=t.length∧∀(i:Nat) (h1:i<s.length) (h2:i<t.length),zw sup s[i].1 s[i].2 t[i].1 t[i].2=true
theorem qjj{sup:List Int}{k n k' n':Int}(h:zw sup k n k' n'=true)(g:vh k'=true):vh k=true:=by
 rw[vv]at h;unfold vh at g⊢
 rw[Xr]at g⊢
 omega
theorem qo8{sup:List Int}{k n k' n':Int}(h:zw sup k n k' n'=true)(g:k=2):k'=2:=by
 rw[vv]at h;omega
theorem qoz{sup:List Int}{op:Int}{a b u:Int×Int}(h:zw sup a.1 a.2 b.1 b.2=true)(g:jo sup op b u=true):jo sup op a u=true:=by
 unfold jo at g⊢
 by_cases h0:u.1=0
 ·rw[Xb h0]
 rw[Xa h0]at g⊢
 by_cases h4:u.1=4
 ·rw[Xb h4]at g⊢
  simp only[Xv,Bool.not_eq_true',Bool.and_eq_false_iff,Wt]at g⊢
  exact⟨qjj h g.1,g.2.imp id (fun q r=>q (qo8 h r))⟩
 ·rw[Xa h4]at g⊢
  exact q3u h g
theorem zF.take{sup:List Int}{s t:List (Int×Int)}(h:zF sup s t)(d:Nat):zF sup (s.take d) (t.take d):=by
 refine⟨by rw[XU,XU,h.1],fun i h1 h2=> ?_⟩;rw[List.getElem_take,List.getElem_take];exact h.2 i _ _
theorem zF.append{sup:List Int}{s t u v:List (Int×Int)}(h:zF sup s t)(g:zF sup u v):zF sup (s++u) (t++v):=by
 refine⟨by rw[Xt,Xt,h.1,g.1],fun i h1 h2=> ?_⟩;by_cases q:i<s.length
 ·rw[List.getElem_append_left q,List.getElem_append_left (by rw[←h.1];exact q)];exact h.2 i _ _
 ·rw[List.getElem_append_right (by omega),List.getElem_append_right (by rw[←h.1];omega)];have e:i - t.length=i - s.length:=by rw[h.1]
  simp only[e];exact g.2 _ _ _
theorem qsx{sup:List Int}{op:Int}{s t TK:List (Int×Int)}(h:zF sup s t)(g:(t.zip TK).all (fun p=>jo sup op p.1 p.2)=true):(s.zip TK).all (fun p=>jo sup op p.1 p.2)=true:=by
 rw[Xy]at g⊢
 intro p hp;obtain⟨i,hi,rfl⟩:=Wi hp;rw[Wh]at hi;have h1:i<s.length:=by omega
 have h2:i<t.length:=by rw[←h.1];exact h1
 have h3:i<TK.length:=by omega
 have hz:i<(t.zip TK).length:=by rw[Wh];omega
 have q:=g _ (Xd hz);rw[List.getElem_zip]at q⊢
 exact qoz (h.2 i h1 h2) q
theorem zF.drop{sup:List Int}{s t:List (Int×Int)}(h:zF sup s t)(d:Nat):zF sup (s.drop d) (t.drop d):=by
 refine⟨by rw[XF,XF,h.1],fun i h1 h2=> ?_⟩;rw[List.getElem_drop,List.getElem_drop];exact h.2 _ _ _
theorem qm5{sup:List Int}{op:Int}{TK GV GV' s t:List (Int×Int)}{nl:List Int}(h:zF sup s t)(hg:zF sup GV' GV)(e:(vC sup op TK GV nl t).err=0):
  (vC sup op TK GV' nl s).err=0∧(vC sup op TK GV' nl s).next=(vC sup op TK GV nl t).next∧zF sup (vC sup op TK GV' nl s).after (vC sup op TK GV nl t).after:=by
 by_cases g:t.length<TK.length∨8<t.length - TK.length+GV.length
 ·unfold vC at e;rw[Xb g]at e;exact absurd e (show ¬(4:Int)=0 by decide)
 by_cases q:((t.drop (t.length - TK.length)).zip TK).all (fun p=>jo sup op p.1 p.2)=true
 ·have e1:vC sup op TK GV nl t=⟨t.take (t.length - TK.length)++GV,nl,0⟩:=by unfold vC;rw[Xa g,Xb q]
  have e2:vC sup op TK GV' nl s=⟨s.take (t.length - TK.length)++GV',nl,0⟩:=by
   unfold vC;rw[h.1,hg.1,Xa g,Xb (qsx (h.drop _) q)]
  rw[e1,e2];exact⟨rfl,rfl,(h.take _).append hg⟩
 ·unfold vC at e;rw[Xa g,Xa q]at e;exact absurd e (show ¬(4:Int)=0 by decide)
theorem zF.nil_iff{sup:List Int}{s t:List (Int×Int)}(h:zF sup s t):s=[]↔t=[]:=by
 rw[←List.length_eq_zero_iff,←List.length_eq_zero_iff,h.1]
theorem zF.last{sup:List Int}{s t:List (Int×Int)}(h:zF sup s t)(hs:s≠ []):zw sup (s.getLast?.getD (0,0)).1 (s.getLast?.getD (0,0)).2 (t.getLast?.getD (0,0)).1 (t.getLast?.getD (0,0)).2=true:=by
 have h0:0<s.length:=List.length_pos_iff.mpr hs;have h1:s.length - 1<s.length:=by omega
 have h2:s.length - 1<t.length:=by rw[←h.1];exact h1
 rw[List.getLast?_eq_getElem?,List.getLast?_eq_getElem?,←h.1,Xc h1,Xc h2];exact h.2 _ _ _
theorem zF.self{sup:List Int}{s:List (Int×Int)}(h:∀t ∈s,zw sup t.1 t.2 t.1 t.2=true):zF sup s s:=⟨rfl,fun _ h1 _=>h _ (Xd h1)⟩
theorem qha{m:za}{x:zf}{op a b:Int}{s t:List (Int×Int)}{sup:List Int}(h:zF sup s t):takes m x op a b s=takes m x op a b t:=by
 unfold takes;by_cases hs:s=[]
 ·rw[hs,h.nil_iff.mp hs]
 ·have ht:t≠ []:=fun e=>hs (h.nil_iff.mpr e);by_cases h6:op=6
  ·rw[Xb ⟨h6,hs⟩,Xb ⟨h6,ht⟩]
  ·rw[Xa (fun q=>h6 q.1),Xa (fun q=>h6 q.1)]
theorem qjs{m:za}{x:zf}{op a b:Int}{s t:List (Int×Int)}{sup:List Int}(h:zF sup s t)(hr:∀t ∈zy m x op a b,zw sup t.1 t.2 t.1 t.2=true):zF sup (vM m x op a b s) (vM m x op a b t):=by
 unfold vM;by_cases hs:s=[]
 ·rw[hs,h.nil_iff.mp hs,Xa (fun q=>q.2 rfl)];exact zF.self hr
 ·have ht:t≠ []:=fun e=>hs (h.nil_iff.mpr e);by_cases h6:op=6
  ·rw[Xb ⟨h6,hs⟩,Xb ⟨h6,ht⟩];have hl:=h.last hs;refine⟨rfl,fun i h1 h2=> ?_⟩
   match i,h1 with
   |0,_=>exact hl
   |1,_=>exact hl
  ·rw[Xa (fun q=>h6 q.1),Xa (fun q=>h6 q.1)];exact zF.self hr
theorem qm9{m:za}{x:zf}{pc op a b:Int}{s t:List (Int×Int)}(h:zF (zt m.classes) s t)(hr:∀t ∈zy m x op a b,zw (zt m.classes) t.1 t.2 t.1 t.2=true)(e:(qx m x pc op a b t).err=0):
  (qx m x pc op a b s).err=0∧(qx m x pc op a b s).next=(qx m x pc op a b t).next∧zF (zt m.classes) (qx m x pc op a b s).after (qx m x pc op a b t).after:=by
 by_cases ho:(qE pc op a).head?.any (fun n=>decide ((x.code.length:Int)≤n))=true
 ·unfold qx at e;rw[Xb ho]at e;exact absurd e (show ¬(4:Int)=0 by decide)
 by_cases h6:op=6∧t=[]
 ·obtain⟨rfl,rfl⟩:=h6;rw[q4i]at e;exact absurd e (show ¬(4:Int)=0 by decide)
 have h6':¬(op=6∧s=[]):=fun q=>h6 ⟨q.1,h.nil_iff.mp q.2⟩;rw[q02 ho h6]at e⊢
 rw[q02 ho h6',qha h];exact qm5 h (qjs h hr) e
theorem kK{c:Prop}[Decidable c]{A B:List (Int×Int)}{P:Int×Int→Prop}(hA:c→∀t ∈A,P t)(hB:¬c→∀t ∈B,P t):∀t ∈(if c then A else B),P t:=by
 by_cases g:c
 ·rw[Xb g];exact hA g
 ·rw[Xa g];exact hB g
theorem Zo{P:Int×Int→Prop}{u:Int×Int}(h:P u):∀t ∈ [u],P t:=fun t ht=>by
 rw[XG.mp ht];exact h
theorem q06{cl:List zO}{t:Int×Int}(h:qA t.1 t.2 cl.length=true):zw (zt cl) t.1 t.2 t.1 t.2=true:=by
 unfold qA at h;rw[Xr]at h;refine YC (by omega) (fun h3=> ?_);rw[jS];omega
theorem q3q{m:za}(hm:zK m){c:Int}{t:Int×Int}(h:t ∈zV m.classes c):qA t.1 t.2 m.classes.length=true:=by
 unfold zV at h;obtain⟨j,_,hj⟩:=List.mem_flatMap.mp h;unfold vE at hj;cases hc:m.classes[j.toNat]? with
 |none=>rw[hc]at hj;simp at hj
 |some y=>
  rw[hc]at hj;have h1:=hm.cls _ _ hc;unfold qs at h1;simp only[Xv]at h1;have h2:=h1.2.1;unfold js at h2;exact Xy.mp h2 _ hj
theorem qci{m:za}{y:zf}(hy:q6m m y):∀t ∈qR y,zw (zt m.classes) t.1 t.2 t.1 t.2=true:=by
 unfold qR;refine kK (fun _ t ht=>absurd ht (by simp)) (fun h5=>Zo ?_);rcases hy.rt with h|h
 ·rw[h]at h5;exact absurd rfl h5
 ·exact q06 h
theorem Jw{l:List (Int×Int)}{a:Int}(h0:0≤a)(h1:a<l.length):l[a.toNat]?.getD (0,0) ∈l:=by
 have h2:a.toNat<l.length:=by omega
 rw[Xc h2];exact Xd h2
theorem qoe{m:za}{x:zf}{f:Nat}{op a b:Int}(hm:zK m)(hg:m.methods[f]? =some x)(hi:qp op a b=true)(hn:zC m x op a b=true):
  ∀t ∈zy m x op a b,zw (zt m.classes) t.1 t.2 t.1 t.2=true:=by
 obtain⟨o0,o1,a0,a1,b0,b1⟩:=Qn hi;have hx:=hm.method (Xo hg);have s1:zw (zt m.classes) 1 0 1 0=true:=YC (.inl rfl) (fun q=>by cases q);have s2:zw (zt m.classes) 2 0 2 0=true:=YC (.inr (.inl rfl)) (fun q=>by cases q);have s4:zw (zt m.classes) 4 0 4 0=true:=YC (.inr (.inr (.inr rfl))) (fun q=>by cases q);have s3:a<m.classes.length→zw (zt m.classes) 3 a 3 a=true:=fun q=>YC (.inr (.inr (.inl rfl))) (fun _=>⟨a0,by rw[jS];exact q⟩);unfold zy;refine kK (fun _=>Zo s1) (fun _=> ?_);refine kK (fun _=>Zo s4) (fun _=> ?_);refine kK (fun h=>Zo ?_) (fun _=> ?_)
 ·have hl:=q4u (.inl h) hn;unfold qm;rw[Xb a0];have hmem:=Jw (l:=x.args++x.locals) a0 (by rw[Xt];omega);rcases Xs.mp hmem with q|q
  ·exact q06 (hx.at_ _ q)
  ·exact q06 (hx.lt _ q)
 refine kK (fun _=>Zo s1) (fun _=> ?_);refine kK (fun _=>Zo s1) (fun _=> ?_);refine kK (fun h=>Zo (s3 (q7v (.inl h) hn))) (fun _=> ?_);refine kK (fun _=>Zo s2) (fun _=> ?_);refine kK (fun _=>Zo s1) (fun _=> ?_);refine kK (fun _=>Zo s1) (fun _=> ?_);refine kK (fun h=>Zo ?_) (fun _=> ?_)
 ·exact q06 (q3q hm (Jw b0 (Yw (.inl h) hn).2))
 refine kK (fun h=>Zo ?_) (fun _=> ?_)
 ·exact q06 (hm.st _ (Jw a0 (Yt (.inl h) hn)))
 refine kK (fun h=>Zo (s3 (q7v (.inr h) hn))) (fun _=> ?_);refine kK (fun h=> ?_) (fun _=> ?_)
 ·subst h;have h1:=YA hn;have h2:a.toNat<m.methods.length:=by omega
  refine qci (hm.method ?_);unfold zu;rw[Xc h2];exact Xd h2
 refine kK (fun h=> ?_) (fun _=> ?_)
 ·subst h;obtain⟨_,k,y,hk,hy,_⟩:=Yz hm a0 b0 hn;refine qci (hm.method ?_);unfold zu kB;rw[hk,XY,Xe,hy];exact Xo hy
 refine kK (fun _=>Zo s1) (fun _=> ?_);exact fun t ht=>absurd ht (by simp)
theorem q3g{m:za}{f pc:Int}{s t:List (Int×Int)}(hm:zK m)(h:zF (zt m.classes) s t)(e:(zD m f pc t).err=0):
  (zD m f pc s).err=0∧(zD m f pc s).next=(zD m f pc t).next∧zF (zt m.classes) (zD m f pc s).after (zD m f pc t).after:=by
 unfold zD at e⊢
 by_cases g:0≤f∧f<m.methods.length∧0≤pc∧pc<(zu m f).code.length
 ·rw[Xb g]at e;rw[Xb g,Xb g];cases hi:(zu m f).code[pc.toNat]? with
  |none=>rw[hi]at e;exact absurd e (show ¬(1:Int)=0 by decide)
  |some i=>
   rw[hi]at e;have hf:f.toNat<m.methods.length:=by omega
   have hg:m.methods[f.toNat]? =some (zu m f):=by unfold zu;rw[Xc hf];rfl
   have hx:=hm.method (Xo hg);have him:=Xo hi;exact qm9 h (qoe hm hg (hx.fits.ct _ him) (hx.co _ him)) e
 ·rw[Xa g]at e;exact absurd e (show ¬(1:Int)=0 by decide)
structure zm where
 seen:Bool
 stack:List (Int×Int)
deriving DecidableEq
def jp:AtP zm:=fun w B p s=>w.cell? p=some (.bool s.seen)∧zG zh 2 w B (zc p 1) s.stack
theorem jp.keeps:vy jp:=fun _ _ _ _ p _ h hp hC hc=>⟨(hc _ hp).trans h.1,zG.keeps zh.keeps 2 h.2 hp hC hc⟩
theorem RowAt.keeps:vy (zG jp 2):=zG.keeps jp.keeps 2
def zr(S:List zm)(i:Int):zm:=S[i.toNat]?.getD ⟨false,[]⟩
theorem Qw{S:List zm}{i:Nat}(h:i<S.length):zr S (i:Int)=S[i]:=by unfold zr;rw[Xe,Xc h];rfl
def VC(sup:List Int)(a b:List (Int×Int)):Bool:=decide (a.length=b.length)&& (a.zip b).all fun p=>zw sup p.1.1 p.1.2 p.2.1 p.2.2
theorem q3s{sup:List Int}{a b:List (Int×Int)}:VC sup a b=true↔zF sup a b:=by
 unfold VC zF;rw[Xv,Xr,Xy];constructor
 ·rintro⟨h1,h2⟩;refine⟨h1,fun i g1 g2=> ?_⟩;have hz:i<(a.zip b).length:=by rw[Wh];omega
  have:=h2 _ (Xd hz);rw[List.getElem_zip]at this;exact this
 ·rintro⟨h1,h2⟩;refine⟨h1,fun p hp=> ?_⟩;obtain⟨i,hi,rfl⟩:=Wi hp;rw[List.getElem_zip];exact h2 i _ _
def onB(m:za)(S:List zm)(af:List (Int×Int))(n:Int):Bool:=(zr S n).seen&& VC (zt m.classes) af (zr S n).stack
def goB(m:za)(f pc:Int)(S:List zm)(st:List (Int×Int)):Bool:=decide ((zD m f pc st).err=0)&& (zD m f pc st).next.all (onB m S (zD m f pc st).after)
def ve(m:za)(f:Int)(S:List zm)(pc:Int):Bool:= !(zr S pc).seen||goB m f pc S (zr S pc).stack
def q2v(m:za)(f:Int)(S:List zm):Bool:=decide (0<S.length)&& (decide (S.length=(zu m f).code.length)&& ((zr S 0).seen&& decide ((zr S 0).stack.length=0)))
def jx(m:za)(f:Int)(S:List zm):Bool:=q2v m f S&& (List.range S.length).all (fun pc=>ve m f S (pc:Int))
def Qz(m:za)(maps:List (List zm)):Bool:=decide (maps.length=m.methods.length)&& (List.range maps.length).all (fun f=>jx m (f:Int) (maps[f]?.getD []))
theorem YE{n:Nat}{p:Nat→Bool}:(List.range n).all p=true↔∀i<n,p i=true:=by
 rw[Xy];exact⟨fun h i hi=>h i (XQ.mpr hi),fun h i hi=>h i (XQ.mp hi)⟩
theorem q4o{n:Nat}{p:Nat→Bool}{i:Nat}(hi:i<n)(h:p i=false):(List.range n).all p=false:=by
 rw[X9];intro q;have:=YE.mp q i hi;rw[h]at this;cases this
theorem q0m{m:za}{x:zf}{F P:Nat}{op a b:Int}{st:List (Int×Int)}(hi:qp op a b=true)(hn:zC m x op a b=true)(he:(qx m x P op a b st).err=0):∀n ∈(qx m x P op a b st).next,0≤n∧n<x.code.length:=by
 obtain⟨o0,o1,a0,a1,b0,b1⟩:=Qn hi;have e4:¬(qw 4).err=0:=by unfold qw;decide
 unfold qx at he⊢
 by_cases h1:(qE P op a).head?.any (fun n=>decide ((x.code.length:Int)≤n))=true
 ·rw[Xb h1]at he;exact absurd he e4
 rw[Xa h1]at he⊢
 by_cases h2:(op=6∧st=[])∨st.length<(takes m x op a b st).length∨8<st.length - (takes m x op a b st).length+(vM m x op a b st).length
 ·rw[Xb h2]at he;exact absurd he e4
 rw[Xa h2]at he⊢
 by_cases h3:((st.drop (st.length - (takes m x op a b st).length)).zip (takes m x op a b st)).all (fun p=>jo (zt m.classes) op p.1 p.2)=true
 ·rw[Xb h3];intro n hm;dsimp only at hm;unfold qE at hm h1;by_cases h18:op=18
  ·rw[Xb h18]at hm h1;simp at hm h1;omega
  ·rw[Xa h18]at hm h1;by_cases h19:op=19
   ·rw[Xb h19]at hm h1;have:=q96 (.inr h19) hn;simp at hm h1;omega
   ·rw[Xa h19]at hm h1;by_cases h33:op=33
    ·rw[Xb h33]at hm;simp at hm
    ·rw[Xa h33]at hm h1;simp at hm h1;omega
 ·rw[Xa h3]at he;exact absurd he e4
def vn(x:zf)(i:Int):Int:=x.phi[i.toNat]?.getD 0
def kN(m:za)(x:zf)(pc:Nat):Int:=match x.code[pc]? with
 |some i=>kh m i.1 i.2.1 i.2.2
 |none=>0
def vR(m:za)(f:Nat)(S:List zm)(pc:Nat):List Int:=(zD m (f:Int) (pc:Int) (zr S (pc:Int)).stack).next
def QM(m:za)(x:zf)(pc:Nat)(q:Int):Bool:=decide (kN m x pc+vn x q≤vn x pc)
def ZA(m:za)(f:Nat)(x:zf)(S:List zm)(pc:Nat):Bool:= !(zr S (pc:Int)).seen||(vR m f S pc).all (QM m x pc)
def Yh(m:za)(f:Nat)(x:zf)(S:List zm):Bool:=decide (vn x 0≤x.pot)&& (List.range x.code.length).all (ZA m f x S)
def ZO(m:za)(l:List (List zm))(f:Nat):Bool:= !Yh m f (zu m (f:Int)) (l[f]?.getD [])
def jL(m:za)(l:List (List zm)):Int:=match(List.range m.methods.length).find? (ZO m l)with
 |some f=>(f:Int)
 |none=> -1
theorem qk2{p:Nat→Bool}{n f:Nat}(hf:f<n)(h:∀g,g<f→p g=false)(hp:p f=true):(List.range n).find? p=some f:=by
 rw[List.find?_eq_some_iff_append];refine⟨hp,List.range f,(List.range (n - f - 1)).map (fun k=>f+1+k),?_,fun a ha=> ?_⟩
 ·refine List.ext_getElem? fun i=> ?_;rcases Xj i f with q|q
  ·rw[Ws (by omega),XJ (by rw[Wb];exact q),Ws q]
  ·rw[XM (by rw[Wb];exact q),Wb];rcases Nat.eq_or_lt_of_le q with e|q2
   ·subst e;rw[Ws hf,Nat.sub_self];rfl
   ·rw[show i - f=(i - f - 1)+1 by omega,List.getElem?_cons_succ,Xx];rcases Xj i n with r|r
    ·rw[Ws r,Ws (by omega)];show some i=some (f+1+(i - f - 1));congr 1;omega
    ·rw[Xu (by rw[Wb];exact r),Xu (by rw[Wb];omega)];rfl
 ·rw[XQ]at ha;rw[h a ha];rfl
theorem q5w{m:za}{l:List (List zm)}{f:Nat}(hf:f<m.methods.length)(h:∀g,g<f→ZO m l g=false)(hp:ZO m l f=true):jL m l=(f:Int):=by
 unfold jL;rw[qk2 hf h hp]
theorem qas{m:za}{l:List (List zm)}(h:∀g,g<m.methods.length→ZO m l g=false):jL m l= -1:=by
 unfold jL;rw[List.find?_eq_none.mpr (fun g hg=>by rw[XQ]at hg;rw[h g hg];simp)]
theorem quf{m:za}{f pc:Nat}{x:zf}{S:List zm}(hp:pc<x.code.length)(h:ZA m f x S pc=false):Yh m f x S=false:=by
 unfold Yh;rw[q4o hp h,Bool.and_false]
theorem qro{m:za}{f:Nat}{x:zf}{S:List zm}(h0:vn x 0≤x.pot)(h:∀pc,pc<x.code.length→ZA m f x S pc=true):Yh m f x S=true:=by
 unfold Yh;rw[Xh h0,YE.mpr h];rfl
def jE(n:Nat)(a b most:Int):List Int×Int:=((List.range n).map fun v:Nat=>(if(v:Int)=b then 1 else 0) - (if(v:Int)=a then 1 else 0),most)
def YM(m:za)(f:Nat)(x:zf)(S:List zm)(pc:Nat):List (List Int×Int):=
 if(zr S (pc:Int)).seen=true then
  if vR m f S pc=[]then [jE x.code.length (pc:Int) (-1) 0]else(vR m f S pc).map fun q=>jE x.code.length (pc:Int) q (-(kN m x pc))
 else []
def Yb(m:za)(f:Nat)(x:zf)(S:List zm):Nat→List (List Int×Int)
 |0=> [jE x.code.length (-1) 0 x.pot]
 |pc+1=>Yb m f x S pc++YM m f x S pc
def Qx(m:za)(l:List (List zm))(f:Int):List (List Int×Int):=if 0≤f∧f<m.methods.length then Yb m f.toNat (zu m f) (l[f.toNat]?.getD []) (zu m f).code.length else []
def Jf(v:Value)(A:Option Addr):Prop:=∀g,v.ownBlock=some g→∀ad,A=some ad→g≠ad.block
theorem q42{w w3:World}{o:Obj}{B:Nat}{A:Option Addr}{xs:List Value}{v:Value}(h:zx w B A xs)(hB:B≤w.heap.size)(hg:(w.alloc o).grownBy w3 v.ownBlock)(ha:Jf v A):zx w3 B A xs:=fun j u hu=>by
 obtain⟨ad,e,hb,hc⟩:=h j u hu;refine⟨ad,e,hb,?_⟩;have hk:(ad.add j).block=ad.block:=by rw[zp]
 have h1:w3.cell? (ad.add j)=(w.alloc o).cell? (ad.add j):=X7 (hg.block _ (by rw[hk];simp;omega) (fun e'=>ha _ e'.symm ad e hk));rw[h1];exact(((zb w.heap.size w).alloc (zn _) o).cell (by rw[hk];omega)).trans hc
theorem qh4{w:World}{A:Option Addr}{B N e n c:Nat}{xs:List Value}(ho:w.ownsRow B e 1 (.slice A n c) n xs)(h:N<B):Jf (.slice (some ⟨N,0,none⟩) 0 0) A:=fun g hg ad e=>by
 have h1:N=g:=by simpa[Value.ownBlock]using hg
 have h2:=(ho.lt ad.block (by rw[e];rfl)).1;omega
theorem q1q{v:Value}{A:Option Addr}{B g9 H n c:Nat}(h:Jf v A)(hlt:∀ad,A=some ad→ad.block<B)(hor:v.ownBlock=some g9∨g9=H)(hH:B≤H):Jf (.slice (some ⟨g9,0,none⟩) n c) A:=fun g hg ad e=>by
 have:g9=g:=by simpa[Value.ownBlock]using hg
 subst this;rcases hor with q|q
 ·exact h _ q ad e
 ·have:=hlt ad e;omega
set_option maxHeartbeats 3200000 in
theorem qf0(m:za)(a b:Int)(h:zg)(w:World)(H:zi w w.heap.size h m)(hn:m.classes.length≤1000):
  Calls Tryz.prog 47 #[zk h m,zz 32 a b] w (vJ (qk m 32 a b) w):=by
 obtain⟨L,hL⟩:∃L,Zp m.classes a=L:=⟨_,rfl⟩
 rw[show qk m 32 a b=kf m b (Zp m.classes a)from rfl,hL];have hLl:L.length≤1000:=by rw[←hL];exact Xg (Vg _ _ _) hn
 have HLB:=zH hL;clear hL;obtain⟨i0,hi,hz0,hz1,hz2⟩:=info_parts vD;obtain⟨hq,hc,hb,hz⟩:=Vj h m 32 a b w;have HW:=zH hb;have HC:=zH hc;have HZ:=zH hz;have HBX:=zH hq;have HIM:=zH (H.now hb);have hn1:=hn;have hkc:=H.classes.cap;clear hb hq hc hz H;go_enter Tryz.func47,Tryz.ntmps47;go_upto_region 1 with fail
 generalize(w.alloc (zo h m)).alloc (.cells #[.int .i64 32,.int .i64 a,.int .i64 b] 55)=w1 at*
 go_upto_region 2 with fail
 have HO:=zH (Jn w1 3);have HX:=zH ((zb w1.heap.size w1).alloc (zn _) (.cells #[] 3));have HZ12:Hid (w1.heap.size<(w1.alloc (.cells #[] 3)).heap.size):=zH (by simp);generalize w1.alloc (.cells #[] 3)=w2 at*
 have hlt:w.heap.size+1<w1.heap.size:=by have:=HZ.out;omega
 have HL:=zH hlt;have HLB0:Hid (w.heap.size<w1.heap.size):=zH (by omega);clear hlt;have j0:=(HC.out.keep HX.out HL.out) 0 _ rfl;have j1:=(HC.out.keep HX.out HL.out) 1 _ rfl;obtain⟨q0,q1,q2,q3,q4,q5,q6⟩:=HBX.out.keep HX.out HLB0.out;have hsz:=HX.out.size;go_wp2_with(first|(go_at_call 72;(with_reducible refine(qn5 HIM HX HLB hn1).mono ?_);rintro e w5 ⟨v5,rfl,ho,hb⟩;have HO:=zH (qo HO.out hb (zZ HO.out));have HX:=zl HX hb;obtain⟨A5,c5,rfl,hl5,g1,g2⟩:=ku ho;have HL5:=zH hl5;have HAP:=zH (qh4 ho HZ12.out);clear hb ho hl5))
 go_loopw [5,7] (fun v i wr=>∃k:Nat,k≤L.length∧i= .int .i64 k∧Hid (wr.ownsRow w1.heap.size 3 1 v (kf m b (L.take k)).length ((kf m b (L.take k)).map (Value.int .i64)))∧Hid (Below w1.heap.size w1 wr)∧Hid (zx wr w5.heap.size A5 (L.map (Value.int .i64)))∧Hid (Jf v A5)∧Hid (w5.heap.size≤wr.heap.size)) (fun _ i _=>L.length - (intOf i).toNat)
 case atStart=>exact⟨0,Xl _,rfl,HO,HX,HL5,HAP,zH (zn _)⟩
 case round=>
  clear HO HX HL5 HAP j0 j1 q0 q1 q2 q3 q4 q5 q6;obtain⟨k,hk,rfl,HO,HX,HL5,HAP,HSZ⟩:=hrel;by_cases hlt:k<L.length
  ·obtain⟨ad,rfl,hab,hc0⟩:=HL5.out k (.int .i64 L[k]) (by rw[Xx,Xc hlt];rfl);have hs:=q71 (m:=m) (b:=b) hlt;have hyl:(kf m b (L.take k)).length≤1000:=Xg (q3h _ _ _) (by rw[XU];omega);obtain⟨q,hq⟩:∃q,L[k]=q:=⟨_,rfl⟩
   rw[hq]at hs hc0;have HPB:Hid ((ad.add k).block<wr.heap.size):=zH (by rw[zp];exact Xp hab HSZ.out);have p:=hc0;have HLT5:Hid (∀ad',some ad=some ad'→ad'.block<w5.heap.size):=zH (fun ad' e=>by injection e with e;subst e;exact hab);obtain⟨o,ho⟩:∃o,jK m.classes q b=o:=⟨_,rfl⟩
   rw[ho]at hs;have HSV:=zH ho;have HS:=zH hs;clear hs ho hq hab hc0;generalize kf m b (L.take k)=Y at*
   obtain⟨q0,q1,q2,q3,q4,q5,q6⟩:=HBX.out.keep HX.out HLB0.out;have j2:=(HC.out.keep HX.out HL.out) 2 _ rfl;have HXd:Hid (Below w1.heap.size w1 wr.drew):=zH HX.out.drew;have HBr:Hid (Below wr.heap.size wr wr.drew):=zH (zb wr.heap.size wr).drew;have HL5d:Hid (zx wr.drew w5.heap.size (some ad) (L.map (Value.int .i64))):=zH (HL5.out.below_to HBr.out HSZ.out);have HOd:Hid (wr.drew.ownsRow w1.heap.size 3 1 u5 Y.length (Y.map (Value.int .i64))):=zH (qo HO.out (zb wr.heap.size wr).drew (zZ HO.out));cases o with
   |none=>
    go_wp2_with fail
    go_region_held3 (fun w'=>w'.cell? ⟨w.heap.size,0,none⟩=some (.slice h.A0 m.classes.length h.c0)∧w'.cell? ⟨w.heap.size,1,none⟩=some (.slice h.A1 m.statics.length h.c1)∧w'.cell? ⟨w.heap.size,2,none⟩=some (.slice h.A2 m.ints.length h.c2)∧w'.cell? ⟨w.heap.size,3,none⟩=some (.slice h.A3 m.methods.length h.c3)∧w'.cell? ⟨w.heap.size,4,none⟩=some (.slice h.A4 m.entries.length h.c4)∧w'.cell? ⟨w.heap.size,5,none⟩=some (.int .i64 m.stack)∧w'.cell? ⟨w.heap.size,6,none⟩=some (.int .i64 m.heap)∧w'.cell? ⟨w.heap.size+1,2,none⟩=some (.int .i64 b)∧w'.cell? (ad.add k)=some (.int .i64 q)) (first|exact⟨q0,q1,q2,q3,q4,q5,q6,j2,p⟩) (first|(go_at_call 73;(with_reducible refine(q5d HIM HXd HSV).mono ?_);rintro e w2 ⟨rfl,hb⟩;have HX2:=zl HXd hb;have HL52:=zH ((HL5d.out.below_to hb HSZ.out):zx w2 w5.heap.size (some ad) (L.map (Value.int .i64)));have HSZ2:Hid (w5.heap.size≤w2.heap.size):=zH (Xg HSZ.out hb.size);have HO2:=zH (qo HOd.out hb (zZ HOd.out));have hsz2:=HX2.out.size;obtain⟨q0,q1,q2,q3,q4,q5,q6⟩:=HBX.out.keep HX2.out HLB0.out;have j2:=(HC.out.keep HX2.out HL.out) 2 _ rfl;have p:=(hb.cell (p:=ad.add k) HPB.out).trans p;clear hb))
    go_wp2_with fail
    go_roundw;case rel=>exact⟨k+1,by omega,by go_num,zH (by rw[HS.out,Option.toList_none,List.append_nil];exact HO2.out),HX2,HL52,HAP,HSZ2⟩
    case measure=>simp[intOf];omega
   |some g=>
    go_wp2_with fail
    go_region_held3 (fun w'=>w'.cell? ⟨w.heap.size,0,none⟩=some (.slice h.A0 m.classes.length h.c0)∧w'.cell? ⟨w.heap.size,1,none⟩=some (.slice h.A1 m.statics.length h.c1)∧w'.cell? ⟨w.heap.size,2,none⟩=some (.slice h.A2 m.ints.length h.c2)∧w'.cell? ⟨w.heap.size,3,none⟩=some (.slice h.A3 m.methods.length h.c3)∧w'.cell? ⟨w.heap.size,4,none⟩=some (.slice h.A4 m.entries.length h.c4)∧w'.cell? ⟨w.heap.size,5,none⟩=some (.int .i64 m.stack)∧w'.cell? ⟨w.heap.size,6,none⟩=some (.int .i64 m.heap)∧w'.cell? ⟨w.heap.size+1,2,none⟩=some (.int .i64 b)∧w'.cell? (ad.add k)=some (.int .i64 q)) (first|exact⟨q0,q1,q2,q3,q4,q5,q6,j2,p⟩) (first|(go_at_call 73;(with_reducible refine(q5d HIM HXd HSV).mono ?_);rintro e w2 ⟨rfl,hb⟩;have HX2:=zl HXd hb;have HL52:=zH ((HL5d.out.below_to hb HSZ.out):zx w2 w5.heap.size (some ad) (L.map (Value.int .i64)));have HSZ2:Hid (w5.heap.size≤w2.heap.size):=zH (Xg HSZ.out hb.size);have HO2:=zH (qo HOd.out hb (zZ HOd.out));have hsz2:=HX2.out.size;obtain⟨q0,q1,q2,q3,q4,q5,q6⟩:=HBX.out.keep HX2.out HLB0.out;have j2:=(HC.out.keep HX2.out HL.out) 2 _ rfl;have p:=(hb.cell (p:=ad.add k) HPB.out).trans p;clear hb))
    go_wp2_with(first|(at_builtin;refine wpList_append_lies _ rfl _ _ 26 rfl w1.heap.size 3 i0 (.int .i64 0) 1 8 Tryz.underlying26 hi hz0 hz1 hz2 rfl (by decide) _ _ _ rfl (HO2.out.alloc _) ⟨_,0,none⟩ 1 1 [.int .i64 g] rfl rfl (q0l _ _) (q0f _) (by decide) (by unfold maxLen;omega) (by omega) (by simp;omega) _ rfl ?_;intro g9 c9 w3 hown' hgrow hor hlt9;have hR:=Yy HO2.out hsz2 HX2.out hown' hgrow;have HO3:=zH hR.1;have HX3:=zH hR.2;have HL53:=zH (q42 HL52.out HSZ2.out hgrow HAP.out);have HAP3:Hid (Jf (.slice (some ⟨g9,0,none⟩) (Y.length+1) c9) (some ad)):=zH (q1q HAP.out HLT5.out hor (by have:=HSZ2.out;simp;omega));have HSZ3:Hid (w5.heap.size≤w3.heap.size):=zH (by have h1:=hgrow.size;have h2:=HSZ2.out;simp at h1;omega);clear hown' hgrow hR hor hlt9))
    go_roundw;case rel=>exact⟨k+1,by omega,by go_num,zH (by rw[HS.out];exact HO3.out),HX3,HL53,HAP3,HSZ3⟩
    case measure=>simp[intOf];omega
  ·obtain rfl:k=L.length:=by omega
   go_wp2_with fail
   go_ret;rw[XP]at HO;exact⟨_,rfl,jc HO.out HW.out.size,HW.out.trans (HX.out.mono HW.out.size)⟩
def vK(n:Nat)(maps:List (List zm)):Prop:=∀S ∈maps,S.length≤n∧∀s ∈S,s.stack.length≤n
theorem vK.more{n k:Nat}{maps:List (List zm)}(h:vK n maps)(hk:n≤k):vK k maps:=fun S hS=>⟨Xg (h S hS).1 hk,fun s hs=>Xg ((h S hS).2 s hs) hk⟩
theorem qi1(m:za)(f pc:Int)(st:List (Int×Int))(A:Option Addr)(cap:Nat)(h:zg)(w:World)(H:zi w w.heap.size h m)(hf:f<0):
  Calls Tryz.prog 57 #[zk h m,.int .i64 f,.int .i64 pc,.slice A st.length cap] w (Jz (zD m f pc st) w):=by
 have e0:zD m f pc st=qw 1:=by unfold zD;rw[Xa (by omega)]
 rw[e0];clear e0;have hle:=H.methods.le;have hcap:=H.methods.cap;have HW:=zH (((zb w.heap.size w).alloc (zn _) (zo h m)));have HIM:=zH (H.now HW.out);have HBX:=zH (zX w h m);have HZ:Hid (w.heap.size<(w.alloc (zo h m)).heap.size):=zH (by simp);clear H;go_enter Tryz.func57,Tryz.ntmps57;go_upto_region 1 with fail
 generalize w.alloc (zo h m)=w1 at*
 obtain⟨q0,q1,q2,q3,q4,q5,q6⟩:=HBX.out;go_wp2_with fail
 go_ret3
 exact Jl 1 HW.out
theorem qi0(m:za)(f pc:Int)(st:List (Int×Int))(A:Option Addr)(cap:Nat)(h:zg)(w:World)(H:zi w w.heap.size h m)(hf0:0≤f)(hf:(m.methods.length:Int)≤f):
  Calls Tryz.prog 57 #[zk h m,.int .i64 f,.int .i64 pc,.slice A st.length cap] w (Jz (zD m f pc st) w):=by
 have e0:zD m f pc st=qw 1:=by unfold zD;rw[Xa (by omega)]
 rw[e0];clear e0;have hle:=H.methods.le;have hcap:=H.methods.cap;have HW:=zH (((zb w.heap.size w).alloc (zn _) (zo h m)));have HIM:=zH (H.now HW.out);have HBX:=zH (zX w h m);have HZ:Hid (w.heap.size<(w.alloc (zo h m)).heap.size):=zH (by simp);clear H;go_enter Tryz.func57,Tryz.ntmps57;go_upto_region 1 with fail
 generalize w.alloc (zo h m)=w1 at*
 obtain⟨q0,q1,q2,q3,q4,q5,q6⟩:=HBX.out;have g0:¬f<0:=by omega
 go_wp2_with fail
 go_ret3
 exact Jl 1 HW.out
theorem qhz(m:za)(f pc:Int)(st:List (Int×Int))(A:Option Addr)(cap:Nat)(h:zg)(w:World)(H:zi w w.heap.size h m)(hf0:0≤f)(hf:f<(m.methods.length:Int))(hp:pc<0):
  Calls Tryz.prog 57 #[zk h m,.int .i64 f,.int .i64 pc,.slice A st.length cap] w (Jz (zD m f pc st) w):=by
 have e0:zD m f pc st=qw 1:=by unfold zD;rw[Xa (by omega)]
 rw[e0];clear e0;have hle:=H.methods.le;have hcap:=H.methods.cap;have HW:=zH (((zb w.heap.size w).alloc (zn _) (zo h m)));have HIM:=zH (H.now HW.out);have HBX:=zH (zX w h m);have HZ:Hid (w.heap.size<(w.alloc (zo h m)).heap.size):=zH (by simp);clear H;go_enter Tryz.func57,Tryz.ntmps57;go_upto_region 1 with fail
 generalize w.alloc (zo h m)=w1 at*
 obtain⟨q0,q1,q2,q3,q4,q5,q6⟩:=HBX.out;have g0:¬f<0:=by omega
 have g1:¬(m.methods.length:Int)≤f:=by omega
 go_wp2_with fail
 go_ret3
 exact Jl 1 HW.out
theorem qhy(m:za)(x:zf)(f:Nat)(pc:Int)(st:List (Int×Int))(A:Option Addr)(cap:Nat)(h:zg)(w:World)(H:zi w w.heap.size h m)(hg:m.methods[f]? =some x)(hp0:0≤pc)(hp:(x.code.length:Int)≤pc):
  Calls Tryz.prog 57 #[zk h m,.int .i64 f,.int .i64 pc,.slice A st.length cap] w (Jz (zD m f pc st) w):=by
 have hk:f<m.methods.length:=(Xw.mp hg).1;have hx:m.methods[f]=x:=(Xw.mp hg).2;have e0:zD m f pc st=qw 1:=by unfold zD zu;rw[Xe,hg,XY,Xa (by omega)]
 rw[e0];clear e0;have hle:=H.methods.le;have hcap:=H.methods.cap;have HW:=zH (((zb w.heap.size w).alloc (zn _) (zo h m)));have HIM:=zH (H.now HW.out);have HBX:=zH (zX w h m);have HZ:Hid (w.heap.size<(w.alloc (zo h m)).heap.size):=zH (by simp);clear H hg;go_enter Tryz.func57,Tryz.ntmps57;go_upto_region 1 with fail
 generalize w.alloc (zo h m)=w1 at*
 obtain⟨q0,q1,q2,q3,q4,q5,q6⟩:=HBX.out;obtain⟨ad,hx',eA,hab,hin,hc⟩:=jJ HIM.out hk;rw[hx]at hin hc;have ccap:=hin.code.cap;have cle:=hin.code.le;have c4:=hc.c4;rw[eA]at q3;clear hin hc eA;have g0:¬(f:Int)<0:=by omega
 have g1:¬(m.methods.length:Int)≤f:=by omega
 have g2:¬pc<0:=by omega
 go_wp2_with fail
 go_ret3
 exact Jl 1 HW.out
theorem quh{st:List (Int×Int)}{n:Nat}(h:n<st.length)(e:st.length=n+1):st.getLast?.getD (0,0)=st[n]:=by
 rw[List.getLast?_eq_getElem?,e,Nat.add_sub_cancel,Xc h];rfl
theorem q78{P:Prop}(h:P:=by
 go_wp2_with(first|(go_at_call 102;(with_reducible refine(qef HZR).mono ?_);rintro e w' ⟨rfl,hb⟩;have HX:=zl HX hb;have HXT:=zl HXT hb;have ku0:=(HCg.out.keep hb HGg.out) 0 _ rfl;have j0:=(HINS.out.keep HXT.out HLT.out) 0 _ rfl;clear hb))
 go_ret3
 rw[E2.out];exact Jl 4 (HW2.out.trans ((HY.out.trans (HX.out.mono HY.out.size)).mono HW2.out.size))):P:=h
theorem q77{P:Prop}(h:P:=by
 go_wp2_with(first|(go_at_call 102;(with_reducible refine(qef HZR).mono ?_);rintro e w' ⟨rfl,hb⟩;have HX:=zl HX hb;have HXT:=zl HXT hb;have ku0:=(HCg.out.keep hb HGg.out) 0 _ rfl;have j0:=(HINS.out.keep HXT.out HLT.out) 0 _ rfl;clear hb))
 go_roundw;case rel=>exact⟨k+1,by omega,by go_num,HR2,HX⟩
 case measure=>simp[intOf];omega):P:=h
theorem qrt{w:World}{B c n:Nat}{A:Option Addr}{l:List Int}(h:zx w B A (l.map (Value.int .i64)))(h1:l.length≤c)(h2:c≤9223372036854775807):zd zq 1 w B A c l:=
 ⟨h1,h2,fun i x hi=>by
  obtain⟨ad,e,hb,hc⟩:=h i (.int .i64 x) (by rw[Xx,hi];rfl);exact⟨ad,e,hb,by rw[Xq];exact hc⟩⟩
theorem qrd(pc op a:Int):(if op=33 then []else if op=19 then [if op=18 then a else pc,a]else [if op=18 then a else pc])=qE (pc - 1) op a:=by
 unfold qE;by_cases h:op=18
 ·subst h;rfl
 ·rw[Xa h,Xa h];by_cases g:op=19
  ·subst g;simp
  ·simp[g]
def ovrB(n:Nat)(L:List Int):Bool:=L.head?.any fun t=>decide ((n:Int)≤t)
theorem qtf{m:za}{x:zf}{pc op a b:Int}{st:List (Int×Int)}(h:ovrB x.code.length (qE pc op a)=true):qx m x pc op a b st=qw 4:=by
 unfold qx;exact Xb h
set_option maxHeartbeats 25600000 in
theorem qqv(m:za)(x:zf)(f pc:Nat)(op a b:Int)(st:List (Int×Int))(A:Option Addr)(cap:Nat)(h:zg)(w:World)(H:zi w w.heap.size h m)(hm:zK m)
  (hg:m.methods[f]? =some x) (hi:qp op a b=true) (hn:zC m x op a b=true) (hpc:x.code[pc]? =some (op,a,b)) (hst:zd zh 2 w w.heap.size A cap st) (hs:st.length≤4000):
  Calls Tryz.prog 57 #[zk h m,.int .i64 f,.int .i64 pc,.slice A st.length cap] w (Jz (qx m x pc op a b st) w):=by
 have hk:f<m.methods.length:=(Xw.mp hg).1;have hx:m.methods[f]=x:=(Xw.mp hg).2;have hpl:pc<x.code.length:=(Xw.mp hpc).1;have hpi:x.code[pc]=(op,a,b):=(Xw.mp hpc).2;have hle:=H.methods.le;have hcap:=H.methods.cap;have slen:=hst.le;have scap:=hst.cap;have HRU:=zH (fun W hW=>qqu m x f op a b h W hW hm hg hi hn);obtain⟨o0,o1,a0,a1,b0,b1⟩:=Qn hi;have HW:=zH (((zb w.heap.size w).alloc (zn _) (zo h m)));have HIM:=zH (H.now HW.out);have HBX:=zH (zX w h m);have HZ:Hid (w.heap.size<(w.alloc (zo h m)).heap.size):=zH (by simp);have HST:=zH ((hst.below_to zh.keeps HW.out (zn _)).keep' zh.keeps HW.out.size (fun _ _=>rfl));have HCL:Hid (m.classes.length≤1000):=zH (by have:=hm.fits.cl;omega);have HCO:Hid (x.code.length≤1048576):=zH (by have:=(hm.method (Xo hg)).fits.cl;omega);clear H hg hi hn hst hm hpc;go_enter Tryz.func57,Tryz.ntmps57;go_upto_region 1 with fail
 generalize w.alloc (zo h m)=w1 at*
 obtain⟨q0,q1,q2,q3,q4,q5,q6⟩:=HBX.out;obtain⟨ad,hx',eA,hab,hin,hc⟩:=jJ HIM.out hk;rw[hx]at hin hc;have ccap:=hin.code.cap;have cle:=hin.code.le;have hco:=HCO.out;obtain⟨ac,eC,hac,i0,i1,i2⟩:=hin.code.row.at_ hpl;rw[hpi]at i0 i1 i2;dsimp only at i0 i1 i2;have HMC:=zH hc;have HAB:=zH (show(ad.add (f*8)).block<w1.heap.size by rw[zp];exact hab);have c4:=hc.c4;have HEA:=zH eA;have HEC:=zH eC;rw[eA]at q3;rw[eC]at c4;clear hin hc eA eC hab;have g0:¬(f:Int)<0:=by omega
 have g1:¬(m.methods.length:Int)≤f:=by omega
 have g2:¬(pc:Int)<0:=by omega
 have g3:¬(x.code.length:Int)≤pc:=by omega
 have hw1:IntKind.i64.wrap ((pc:Int)+1)=(pc:Int)+1:=IntWalk.i64_in _ (by omega);go_upto_region 4 with fail
 have HINS:=zH (qa w1 [.int .i64 op,.int .i64 a,.int .i64 b] 55);have HX:=zH ((zb w1.heap.size w1).alloc (zn _) (.cells #[.int .i64 op,.int .i64 a,.int .i64 b] 55));have HZ2:Hid (w1.heap.size<(w1.alloc (.cells #[.int .i64 op,.int .i64 a,.int .i64 b] 55)).heap.size):=zH (by simp);clear q0 q1 q2 q3 q4 q5 q6 c4 i0 i1 i2;change Code.wp _ _ _ _ (w1.alloc (.cells [Value.int .i64 op,.int .i64 a,.int .i64 b].toArray 55));generalize w1.alloc (.cells [Value.int .i64 op,.int .i64 a,.int .i64 b].toArray 55)=w2 at*
 have hs2:=HX.out.size;have HW2:=zH (HW.out.trans (HX.out.mono HW.out.size));have HBX2:=zH (HBX.out.keep HX.out HZ.out);have HZB:Hid (w.heap.size<w2.heap.size):=zH (Xp HZ.out hs2);have HIM2:=zH (HIM.out.now HX.out);have HST2:=zH ((HST.out.below_to zh.keeps HX.out (zn _)).keep' zh.keeps HX.out.size (fun _ _=>rfl));have HMC2:=zH (HMC.out.keep HX.out HAB.out);have HAB2:Hid ((ad.add (f*8)).block<w2.heap.size):=zH (Xp HAB.out hs2);have HLT:Hid (w1.heap.size<w2.heap.size):=zH HZ2.out;clear HBX HIM HST HMC HAB HZ hs2;go_upto_region 5 with fail
 have HOW:=zH (qco w2 (.int .i64 ((pc:Int)+1)) 3);have HY:=zH ((zb w2.heap.size w2).alloc (zn _) (.cells #[.int .i64 ((pc:Int)+1)] 3));change Code.wp _ _ _ _ (w2.alloc (.cells [Value.int .i64 ((pc:Int)+1)].toArray 3));change Hid (World.ownsRow (w2.alloc (.cells [Value.int .i64 ((pc:Int)+1)].toArray 3)) _ _ _ _ _ _)at HOW;generalize w2.alloc (.cells [Value.int .i64 ((pc:Int)+1)].toArray 3)=w3 at*
 obtain⟨i0,hi,hz0,hz1,hz2⟩:=qQ vD;obtain⟨j0,j1,j2⟩:=zM (HINS.out.keep HY.out HLT.out);clear g0 g1 g2 g3;go_upto_if 58 with fail
 obtain⟨v1,hv1⟩:∃v,(if op=18 then a else(pc:Int)+1)=v:=⟨_,rfl⟩
 have HV1:=zH hv1;clear hv1;go_cut [12] (fun s wx=>Hid (wx.ownsRow w2.heap.size 3 1 s 1 [.int .i64 v1])∧Hid (Below w2.heap.size w2 wx))
 case first=>
  by_cases h18:op=18
  ·have b18:(op==18)=true:=X6.mpr h18;have HVA:Hid (a=v1):=zH (by rw[←HV1.out,Xb h18]);clear h18;go_wp2_with fail
   go_meet
   exact⟨zH (by rw[←HVA.out];exact jc (qco w3 (.int .i64 a) 3) HY.out.size),zH (HY.out.alloc HY.out.size _)⟩
  ·have b18:(op==18)=false:=XK.mpr h18;have HVA:Hid ((pc:Int)+1=v1):=zH (by rw[←HV1.out,Xa h18]);clear h18;go_wp2_with fail
   go_meet
   exact⟨zH (by rw[←HVA.out];exact HOW.out),HY⟩
 case rest=>
 as_aux_lemma=>
 obtain⟨HO4,HY4⟩:=hcut;clear j0 j1 j2 HOW HY;generalize wc=w4 at*
 obtain⟨j0,j1,j2⟩:=zM (HINS.out.keep HY4.out HLT.out);go_upto_if 64 with fail
 obtain⟨L2,hL2⟩:∃L,(if op=19 then [v1,a]else [v1])=L:=⟨_,rfl⟩
 have HL2:=zH hL2;clear hL2;go_cut [12] (fun s wx=>Hid (wx.ownsRow w2.heap.size 3 1 s L2.length (L2.map (Value.int .i64)))∧Hid (Below w2.heap.size w2 wx))
 case first=>
  have hsz:=HY4.out.size;by_cases h19:op=19
  ·have b19:(op==19)=true:=X6.mpr h19;have HVA:Hid ([v1,a]=L2):=zH (by rw[←HL2.out,Xb h19]);clear h19;go_wp2_with(at_builtin;refine vt rfl _ _ 26 rfl w2.heap.size 3 i0 (.int .i64 0) 1 8 Tryz.underlying26 hi hz0 hz1 hz2 rfl (by decide) _ 1 [.int .i64 v1] rfl (HO4.out.alloc _) (some ⟨w4.heap.size,0,none⟩) 1 1 _ [.int .i64 a] rfl rfl (Jv w4 _ _) (Qq rfl) (by unfold maxLen;omega) (by omega) (by simp;omega) ?_;intro v6 w6 hown hgrow;have HO6:=zH hown;have HY6:=zH (qN (HY4.out.alloc hsz _) (HO4.out.alloc _) (by simp;omega) hgrow);clear hown hgrow)
   go_meet
   exact⟨zH (by rw[←HVA.out];exact HO6.out),HY6⟩
  ·have b19:(op==19)=false:=XK.mpr h19;have HVA:Hid ([v1]=L2):=zH (by rw[←HL2.out,Xa h19]);clear h19;go_wp2_with fail
   go_meet
   exact⟨zH (by rw[←HVA.out];exact HO4.out),HY4⟩
 case rest=>
 as_aux_lemma=>
 obtain⟨HO5,HY5⟩:=hcut;clear j0 j1 j2 HO4 HY4;generalize wc=w5 at*
 obtain⟨j0,j1,j2⟩:=zM (HINS.out.keep HY5.out HLT.out);go_upto_if 72 with fail
 obtain⟨nl,hnl⟩:∃L,qE pc op a=L:=⟨_,rfl⟩
 have HNE:Hid ((if op=33 then []else L2)=nl):=zH (by
  rw[←hnl,←HL2.out,←HV1.out,qrd,Int.add_sub_cancel])
 have HNL:=zH hnl;clear hnl HL2 HV1;go_cut [12] (fun s wx=>Hid (wx.ownsRow w2.heap.size 3 1 s nl.length (nl.map (Value.int .i64)))∧Hid (Below w2.heap.size w2 wx))
 case first=>
  by_cases h33:op=33
  ·have b33:(op==33)=true:=X6.mpr h33;have HVA:Hid ([]=nl):=zH (by rw[←HNE.out,Xb h33]);clear h33;go_wp2_with fail
   go_meet
   exact⟨zH (by rw[←HVA.out];exact jc (Qo w5 3 1) HY5.out.size),zH (HY5.out.alloc HY5.out.size _)⟩
  ·have b33:(op==33)=false:=XK.mpr h33;have HVA:Hid (L2=nl):=zH (by rw[←HNE.out,Xa h33]);clear h33;go_wp2_with fail
   go_meet
   exact⟨zH (by rw[←HVA.out];exact HO5.out),HY5⟩
 case rest=>
 as_aux_lemma=>
 obtain⟨HO6,HY6⟩:=hcut;clear j0 j1 j2 HO5 HY5 HNE;generalize wc=w6 at*
 obtain⟨An,cn,rfl,hln,hn1,hn2⟩:=ku HO6.out;have HNA:Hid (∀ad,An=some ad→w.heap.size≤ad.block):=zH (fun ad e=>by
  have:=(HO6.out.lt ad.block (by rw[e];rfl)).1;exact Xg HW2.out.size this)
 have HNX:=zH (qrt (n:=0) hln hn1 hn2);clear hln HO6;obtain⟨kn,hkn⟩:∃z,nl.length=z:=⟨_,rfl⟩
 have HKN:=zH hkn;rw[hkn]at hn1⊢
 clear hkn;obtain⟨q0,q1,q2,q3,q4,q5,q6⟩:=HBX2.out.keep HY6.out HZB.out;rw[HEA.out]at q3;have c4:=(HMC2.out.keep HY6.out HAB2.out).c4;rw[HEC.out]at c4;obtain⟨j0,j1,j2⟩:=zM (HINS.out.keep HY6.out HLT.out);have g0:¬(f:Int)<0:=by omega
 have g1:¬(m.methods.length:Int)≤f:=by omega
 go_upto_region 11 with fail
 obtain⟨ov,hov⟩:∃b,ovrB x.code.length nl=b:=⟨_,rfl⟩
 have HOV:=zH hov;clear hov;go_cut [89] (fun s wx=>s= .bool ov∧Hid (Below w6.heap.size w6 wx))
 case first=>
  rcases nl with _|⟨t,r⟩
  ·have hk0:kn=0:=HKN.out.symm;subst hk0;have HOF:Hid (ov=false):=zH HOV.out.symm;refine wp_region_noPanic ?_;refine wp_region_held_drew (S:=(fun w'=>w'.cell? ⟨w.heap.size,3,none⟩=some (.slice (some ad) m.methods.length h.c3))) (by kernel_rfl) q3 (fun hHeld=> ?_);refine mT 0 (h:=mT 1 (h:=mT 2 (h:=mT 3 (h:=mU 4 (h:=mU 5 (h:=mU 6 (h:=mU 7 (h:= ?_))))))));refine mU 8 (h:=mU 9 (h:=mU 10 (h:=mU 11 (h:=mU 12 (h:=mU 13 (h:=mU 14 (h:=mT 15 (h:= ?_))))))));refine wpAnyH_done (by kernel_rfl) ?_ _;refine NoPanic.normal ?_;go_wp2_with fail
   go_meet
   exact⟨by rw[HOF.out],zH (zb _ _).drew⟩
  ·obtain⟨adn,rfl,habn,n0⟩:=HNX.out.row.at_ (i:=0) (by simp);have n0:w6.cell? adn=some (.int .i64 t):=by
    have:=n0;rw[Xq,show adn.add 0=adn by simp[Addr.add]]at this;exact this
   have hkq:0<kn:=by have h1:r.length+1=kn:=HKN.out;omega
   have hkp:(0:Int)<(kn:Int):=by omega
   have HOF:Hid (decide ((x.code.length:Int)≤t)=ov):=zH HOV.out;go_region_held3 (fun w'=>w'.cell? ⟨w.heap.size,3,none⟩=some (.slice (some ad) m.methods.length h.c3)∧w'.cell? ⟨(ad.add (f*8)).block,(ad.add (f*8)).off+4,none⟩=some (.slice (some ac) x.code.length hx'.k4)∧w'.cell? adn=some (.int .i64 t)) (first|exact⟨q3,c4,n0⟩) (first|fail)
   all_goals
    go_wp2_with fail
    go_meet
    exact⟨by rw[←HOF.out],zH (zb _ _).drew⟩
 case rest=>
 as_aux_lemma=>
 obtain⟨rfl,HYd⟩:=hcut;have HNX:=zH (HNX.out.keep' zq.keeps HYd.out.size (fun _ hq=>HYd.out.cell hq));have HY:=zl HY6 HYd.out;clear q0 q1 q2 q3 q4 q5 q6 c4 j0 j1 j2 HY6 HYd g0 g1;generalize wc=w7 at*
 obtain⟨q0,q1,q2,q3,q4,q5,q6⟩:=HBX2.out.keep HY.out HZB.out;obtain⟨j0,j1,j2⟩:=zM (HINS.out.keep HY.out HLT.out);cases ov;rotate_left
 ·have E2:=zH (qtf (m:=m) (x:=x) (b:=b) (st:=st) (pc:=(pc:Int)) (op:=op) (a:=a) (by rw[HNL.out];exact HOV.out));go_wp2_with fail
  go_ret3
  rw[E2.out];exact Jl 4 (HW2.out.trans (HY.out.mono HW2.out.size))
 obtain⟨TK0,hTK⟩:∃TK,zB m x op a b=TK:=⟨_,rfl⟩
 obtain⟨GV0,hGV⟩:∃GV,zy m x op a b=GV:=⟨_,rfl⟩
 obtain⟨TK,hTK2⟩:∃TK,takes m x op a b st=TK:=⟨_,rfl⟩
 obtain⟨GV,hGV2⟩:∃GV,vM m x op a b st=GV:=⟨_,rfl⟩
 have HGL:Hid (GV.length≤2):=zH (by
  rw[←hGV2];unfold vM;split
  ·exact zn _
  ·exact q9i m x op a b)
 have E0:Hid (¬(op=6∧st=[])→qx m x pc op a b st=vC (zt m.classes) op TK GV nl st):=zH (fun h6=>by
  have:=q02 (m:=m) (x:=x) (b:=b) (st:=st) (pc:=(pc:Int)) (op:=op) (a:=a) (by rw[HNL.out];exact X9.mp HOV.out) h6;rw[hTK2,hGV2,HNL.out]at this;exact this)
 have E6:Hid (op=6∧st=[]→qx m x pc op a b st=qw 4):=zH (fun h6=>by rw[h6.1,h6.2];exact q4i);have HTK:Hid (TK=if op=6∧st≠ []then [(0,0)]else TK0):=zH (by rw[←hTK2,←hTK];rfl);have HGV:Hid (GV=if op=6∧st≠ []then [st.getLast?.getD (0,0),st.getLast?.getD (0,0)]else GV0):=zH (by rw[←hGV2,←hGV];rfl);rw[hTK,hGV]at HRU;clear hTK hGV hTK2 hGV2 HOV HNL;go_upto_region 14 with(go_at_call 101;(with_reducible refine(HRU.out _ (HIM2.out.now HY.out)).mono ?_);rintro e w5 ⟨At,ct,Ag,cg,rfl,hT,hG,hb⟩;have HT:=zH hT;have HG:=zH hG;have HNX:=zH (HNX.out.keep' zq.keeps hb.size (fun _ hq=>hb.cell hq));have HY:=zl HY hb;clear hT hG hb;clear q0 q1 q2 q3 q4 q5 q6 j0 j1 j2;obtain⟨j0,j1,j2⟩:=zM (HINS.out.keep HY.out HLT.out))
 obtain⟨db,hdb⟩:∃z,decide (op=6∧st≠ [])=z:=⟨_,rfl⟩
 have HDB:=zH hdb;clear hdb;go_upto_region 14 with fail
 go_cut [104] (fun s wx=>s= .bool db∧Hid (Below w5.heap.size w5 wx))
 case first=>
  by_cases h6:op=6
  ·have b6:(op==6)=true:=X6.mpr h6;have HB:Hid (decide (0<st.length)=db):=zH (by
    rw[←HDB.out,Wa];exact⟨fun q=>⟨h6,fun e=>by rw[e]at q;cases q⟩,fun q=>List.length_pos_iff.mpr q.2⟩)
   clear h6;go_wp2_with fail
   go_meet
   exact⟨by rw[←HB.out],zH (zb _ _)⟩
  ·have b6:(op==6)=false:=XK.mpr h6;have HB:Hid (db=false):=zH (by rw[←HDB.out];exact Xf (fun q=>h6 q.1));clear h6;go_wp2_with fail
   go_meet
   exact⟨by rw[HB.out],zH (zb _ _)⟩
 case rest=>
 as_aux_lemma=>
 obtain⟨rfl,HX6⟩:=hcut;have HNX:=zH (HNX.out.keep' zq.keeps HX6.out.size (fun _ hq=>HX6.out.cell hq));have HT:=zH (HT.out.keep' zh.keeps HX6.out.size (fun _ hq=>HX6.out.cell hq));have HG:=zH (HG.out.keep' zh.keeps HX6.out.size (fun _ hq=>HX6.out.cell hq));have HY:=zl HY HX6.out;clear HX6 j0 j1 j2;generalize wc=w5 at*
 go_upto_if 104 with fail
 go_cut [13,14] (fun s13 s14 wx=>∃At ct Ag cg,s13= .slice At TK.length ct∧s14= .slice Ag GV.length cg∧Hid (zd zh 2 wx wx.heap.size At ct TK)∧Hid (zd zh 2 wx wx.heap.size Ag cg GV)∧Hid (Below w5.heap.size w5 wx))
 case first=>
  cases db
  ·have h60:¬(op=6∧st≠ []):=of_decide_eq_false HDB.out;have HA:Hid (TK=TK0):=zH (by rw[HTK.out,Xa h60]);have HB:Hid (GV=GV0):=zH (by rw[HGV.out,Xa h60]);clear h60;go_wp2_with fail
   go_meet
   exact⟨_,_,_,_,by rw[HA.out],by rw[HB.out],zH (by rw[HA.out];exact HT.out),zH (by rw[HB.out];exact HG.out),zH (zb _ _)⟩
  ·obtain⟨h6,hst0⟩:=XN HDB.out;have hpos:0<st.length:=List.length_pos_iff.mpr hst0;obtain⟨n,hn⟩:∃n,st.length=n+1:=⟨st.length - 1,by omega⟩
   have hnl':n<st.length:=by omega
   have hgt:(0:Int)<(st.length:Int):=by omega
   have hw5:IntKind.i64.wrap ((st.length:Int) - 1)=(n:Int):=by rw[IntWalk.i64_in _ (by omega)];omega
   obtain⟨t,ht⟩:∃t,st[n]=t:=⟨_,rfl⟩
   have HTN:=zH ht;have HA:Hid (TK=[(0,0)]):=zH (by rw[HTK.out,Xb ⟨h6,hst0⟩]);have HB:Hid (GV=[t,t]):=zH (by rw[HGV.out,Xb ⟨h6,hst0⟩,quh hnl' hn,ht]);clear ht h6 hst0 hn HT HG;obtain⟨t0,t1⟩:=t;obtain⟨ad1,rfl,hb1,s0,s1⟩:=HST2.out.row.at_ hnl';rw[HTN.out]at s0 s1;dsimp only at s0 s1;have p0:=(HY.out.cell (p:=ad1.add (n*2)) (by rw[zp];exact hb1)).trans s0;have p1:=(HY.out.cell (p:=zc (ad1.add (n*2)) 1) (by show(ad1.add (n*2)).block<_;rw[zp];exact hb1)).trans s1;clear s0 s1 hb1;go_upto_region 16 with fail
   have ku0:=(qa w5 [.int .i64 t0,.int .i64 t1] 50) 0 _ rfl;have ku1:=(qa w5 [.int .i64 t0,.int .i64 t1] 50) 1 _ rfl;have HW6:=zH ((zb w5.heap.size w5).alloc (zn _) (.cells #[.int .i64 t0,.int .i64 t1] 50));change Code.wp _ _ _ _ (w5.alloc (.cells [Value.int .i64 t0,.int .i64 t1].toArray 50));obtain⟨g5,hg5⟩:∃z,w5.heap.size=z:=⟨_,rfl⟩
   simp only[hg5]at ku0 ku1⊢
   have HG5:=zH hg5;clear hg5;generalize w5.alloc (.cells [Value.int .i64 t0,.int .i64 t1].toArray 50)=w6b at*
   have e1:=World.new_ne w6b _ ku0;go_region_held3 (fun w'=>w'.cell? ⟨g5,0,none⟩=some (.int .i64 t0)∧w'.cell? ⟨g5,1,none⟩=some (.int .i64 t1)) (go_keep) (first|fail)
   all_goals
    go_wp2_with fail
    go_meet
    refine⟨_,_,_,_,by rw[HA.out];rfl,by rw[HB.out];rfl,zH ?_,zH ?_,zH ?_⟩
    ·rw[HA.out];exact jV (by simp<;>omega) (by go_simp) (by go_simp)
    ·rw[HB.out];exact q2s (by simp<;>omega) (by go_simp) (by go_simp) (by go_simp) (by go_simp)
    ·exact HW6.out.trans (((((zb w6b.heap.size w6b).alloc (zn _) _).alloc (by simp) _).drew).mono HW6.out.size)
 case rest=>
 as_aux_lemma=>
 obtain⟨At,ct,Ag,cg,rfl,rfl,HT,HG,HX6⟩:=hcut;have HNX:=zH (HNX.out.keep' zq.keeps HX6.out.size (fun _ hq=>HX6.out.cell hq));have HY:=zl HY HX6.out;clear HX6 HTK HGV HRU HDB;generalize wc=w5 at*
 obtain⟨q0,q1,q2,q3,q4,q5,q6⟩:=HBX2.out.keep HY.out HZB.out;obtain⟨j0,j1,j2⟩:=zM (HINS.out.keep HY.out HLT.out);have htl:=HT.out.le;have htc:=HT.out.cap;have hgl:=HGL.out;by_cases h6:op=6∧st=[]
 ·have E2:=zH (E6.out h6);have b6:(op==6)=true:=X6.mpr h6.1;have hs0:(st.length:Int)=0:=by rw[h6.2];rfl
  clear h6;go_wp2_with fail
  go_ret3
  rw[E2.out];exact Jl 4 (HW2.out.trans (HY.out.mono HW2.out.size))
 have E0:=zH (E0.out h6);obtain⟨bo,hbo⟩:∃z,(op==6)=z:=⟨_,rfl⟩
 have hne:bo=true→¬(st.length:Int)=0:=fun e q=>h6 ⟨X6.mp (hbo.trans e),List.length_eq_zero_iff.mp (by omega)⟩;clear h6;obtain⟨bad,hbad⟩:∃z,(decide (st.length<TK.length)||decide (8<st.length - TK.length+GV.length))=z:=⟨_,rfl⟩
 have HBAD:=zH hbad;have HNE:=zH hne;clear hbad hne;go_upto_region 17 with fail
 go_cut [141] (fun s wx=>s= .bool bad∧Hid (Below w5.heap.size w5 wx))
 case first=>
  by_cases hs1:st.length<TK.length
  ·have HB:Hid (bad=true):=zH (by rw[←HBAD.out,Xh hs1];rfl);cases bo
   ·go_wp2_with fail
    go_meet
    exact⟨by rw[HB.out],zH (zb _ _)⟩
   ·have hs0:=HNE.out rfl;have hs9:((st.length:Int)==0)=false:=XK.mpr hs0;have hs8':¬st.length=0:=by omega
    go_wp2_with fail
    go_meet
    exact⟨by rw[HB.out],zH (zb _ _)⟩
  have hw2:IntKind.i64.wrap ((st.length:Int) - (TK.length:Int))=((st.length - TK.length:Nat):Int):=by rw[IntWalk.i64_in _ (by omega)];omega
  obtain⟨d,hd⟩:∃d,st.length - TK.length=d:=⟨_,rfl⟩
  rw[hd]at hw2;have hw3:IntKind.i64.wrap ((d:Int)+(GV.length:Int))=(d:Int)+(GV.length:Int):=IntWalk.i64_in _ (by omega);have HB:Hid (decide ((8:Int)<(d:Int)+(GV.length:Int))=bad):=zH (by rw[←HBAD.out,Xf hs1,Bool.false_or,hd,Wa];omega);clear hd;cases bo
  ·go_wp2_with fail
   go_meet
   exact⟨by rw[←HB.out],zH (zb _ _)⟩
  ·have hs0:=HNE.out rfl;have hs9:((st.length:Int)==0)=false:=XK.mpr hs0;have hs8':¬st.length=0:=by omega
   go_wp2_with fail
   go_meet
   exact⟨by rw[←HB.out],zH (zb _ _)⟩
 case rest=>
 as_aux_lemma=>
 obtain⟨rfl,HX6⟩:=hcut;have HNX:=zH (HNX.out.keep' zq.keeps HX6.out.size (fun _ hq=>HX6.out.cell hq));have HT:=zH (HT.out.keep' zh.keeps HX6.out.size (fun _ hq=>HX6.out.cell hq));have HG:=zH (HG.out.keep' zh.keeps HX6.out.size (fun _ hq=>HX6.out.cell hq));have HY:=zl HY HX6.out;clear q0 q1 q2 q3 q4 q5 q6 j0 j1 j2 HX6 HNE hbo;generalize wc=w5 at*
 cases bad;rotate_left
 ·have E2:Hid (qx m x pc op a b st=qw 4):=zH (E0.out.trans (by
   unfold vC;rw[Xb];have:=HBAD.out;rw[We,Xr,Xr]at this;exact this))
  go_wp2_with fail
  go_ret3
  rw[E2.out];exact Jl 4 (HW2.out.trans (HY.out.mono HW2.out.size))
 obtain⟨q0,q1,q2,q3,q4,q5,q6⟩:=HBX2.out.keep HY.out HZB.out;obtain⟨j0,j1,j2⟩:=zM (HINS.out.keep HY.out HLT.out);obtain⟨hs1,hs2⟩:¬st.length<TK.length∧¬8<st.length - TK.length+GV.length:=by
  have:=HBAD.out;rw[Bool.or_eq_false_iff,Wt,Wt]at this;exact this
 have hw2:IntKind.i64.wrap ((st.length:Int) - (TK.length:Int))=((st.length - TK.length:Nat):Int):=by rw[IntWalk.i64_in _ (by omega)];omega
 obtain⟨d,hd⟩:∃d,st.length - TK.length=d:=⟨_,rfl⟩
 rw[hd]at hw2 hs2;have E1:=zH (E0.out.trans (qtd hd hs1 hs2));obtain⟨Z,hZ⟩:∃Z,(st.drop d).zip TK=Z:=⟨_,rfl⟩
 have hZl:Z.length=TK.length:=by rw[←hZ,Wh,XF];omega
 have HZK:Hid (∀k (h1:d+k<st.length) (h2:k<TK.length) (h3:k<Z.length),Z[k]=(st[d+k],TK[k])):=zH (by subst hZ;intro k h1 h2 h3;simp);rw[hZ]at E1;have HZl:=zH hZl;clear E0 hZ hZl;have hdl:d+TK.length=st.length:=by omega
 have hs8:d≤8:=by omega
 go_wp2_with fail
 go_loopw [17] (fun i wr=>∃k:Nat,k≤TK.length∧i= .int .i64 k∧Hid (∀p ∈Z.take k,jo (zt m.classes) op p.1 p.2=true)∧Hid (Below w5.heap.size w5 wr)) (fun i _=>TK.length - (intOf i).toNat)
 case atStart=>exact⟨0,by omega,rfl,zH (by simp),zH (zb _ _)⟩
 case round=>
  clear q0 q1 q2 q3 q4 q5 q6 j0 j1 j2;obtain⟨k,hk,rfl,HN,HX⟩:=hrel;by_cases hlt:k<TK.length
  ·have hkZ:k<Z.length:=by rw[HZl.out];exact hlt
   obtain⟨j,hj⟩:∃j,d+k=j:=⟨_,rfl⟩
   have hdk:j<st.length:=by omega
   have hZk:=HZK.out k (by omega) hlt hkZ;simp only[hj]at hZk;obtain⟨ad1,rfl,hb1,s0,s1⟩:=HST2.out.row.at_ hdk;obtain⟨ad2,rfl,hb2,v0,v1⟩:=HT.out.row.at_ hlt;have HXT:=zH (HY.out.trans (HX.out.mono HY.out.size));have p0:=(HXT.out.cell (p:=ad1.add (j*2)) (by rw[zp];exact hb1)).trans s0;have p1:=(HXT.out.cell (p:=zc (ad1.add (j*2)) 1) (by show(ad1.add (j*2)).block<_;rw[zp];exact hb1)).trans s1;have r0:=(HX.out.cell (p:=ad2.add (k*2)) (by rw[zp];exact hb2)).trans v0;have r1:=(HX.out.cell (p:=zc (ad2.add (k*2)) 1) (by show(ad2.add (k*2)).block<_;rw[zp];exact hb2)).trans v1;have HNO:=zH (fun g:(fun p:(Int×Int)×(Int×Int)=>jo (zt m.classes) op p.1 p.2) Z[k]=false=>vb (f:=(fun p:(Int×Int)×(Int×Int)=>jo (zt m.classes) op p.1 p.2)) hkZ g);have HYE:=zH (fun g:(fun p:(Int×Int)×(Int×Int)=>jo (zt m.classes) op p.1 p.2) Z[k]=true=>jT (f:=(fun p:(Int×Int)×(Int×Int)=>jo (zt m.classes) op p.1 p.2)) hkZ HN.out g);rw[hZk]at HNO HYE;clear hZk;generalize st[j]=t at*
   generalize TK[k]=u at*
   obtain⟨t0,t1⟩:=t;obtain⟨u0,u1⟩:=u;dsimp only at p0 p1 r0 r1;have hw4:IntKind.i64.wrap ((d:Int)+(k:Int))=(j:Int):=by rw[IntWalk.i64_in _ (by omega)];omega
   clear s0 s1 v0 v1 hb1 hb2;go_upto_region 23 with fail
   go_cut [18,19] (fun s18 s19 wx=>∃g g':Nat,s18= .pointer (some ⟨g,0,none⟩)∧s19= .pointer (some ⟨g',0,none⟩)∧Hid (zW wx g [.int .i64 t0,.int .i64 t1])∧Hid (zW wx g' [.int .i64 u0,.int .i64 u1])∧Hid (Below wr.heap.size wr wx)∧Hid (g<wx.heap.size)∧Hid (g'<wx.heap.size))
   case first=>
    have e1:=World.new_ne wr _ p0;have e2:=World.new_ne wr _ r0;go_region_held3 (fun w'=>w'.cell? (ad1.add (j*2))=some (.int .i64 t0)∧w'.cell? (zc (ad1.add (j*2)) 1)=some (.int .i64 t1)∧w'.cell? (ad2.add (k*2))=some (.int .i64 u0)∧w'.cell? (zc (ad2.add (k*2)) 1)=some (.int .i64 u1)) (go_keep) (first|fail)
    all_goals
     go_wp2_with fail
     go_meet
     first
      |exact⟨_,_,rfl,rfl,zH (QU wr 50 [.int .i64 t0,.int .i64 t1] [.int .i64 u0,.int .i64 u1]).1,zH (QU wr 50 [.int .i64 t0,.int .i64 t1] [.int .i64 u0,.int .i64 u1]).2.1,zH (QU wr 50 [.int .i64 t0,.int .i64 t1] [.int .i64 u0,.int .i64 u1]).2.2.1,zH (QU wr 50 [.int .i64 t0,.int .i64 t1] [.int .i64 u0,.int .i64 u1]).2.2.2.1,zH (QU wr 50 [.int .i64 t0,.int .i64 t1] [.int .i64 u0,.int .i64 u1]).2.2.2.2⟩
      |exact⟨_,_,rfl,rfl,zH (QU wr 50 [.int .i64 u0,.int .i64 u1] [.int .i64 t0,.int .i64 t1]).2.1,zH (QU wr 50 [.int .i64 u0,.int .i64 u1] [.int .i64 t0,.int .i64 t1]).1,zH (QU wr 50 [.int .i64 u0,.int .i64 u1] [.int .i64 t0,.int .i64 t1]).2.2.1,zH (QU wr 50 [.int .i64 u0,.int .i64 u1] [.int .i64 t0,.int .i64 t1]).2.2.2.2,zH (QU wr 50 [.int .i64 u0,.int .i64 u1] [.int .i64 t0,.int .i64 t1]).2.2.2.1⟩
   case rest=>
    obtain⟨g,g',rfl,rfl,HCg,HCh,HXk,HGg,HGh⟩:=hcut;have HX:=zH (HX.out.trans (HXk.out.mono HX.out.size));have HXT:=zH (HXT.out.trans (HXk.out.mono HXT.out.size));have HXc:=zH (zb wc.heap.size wc);clear HXk p0 p1 r0 r1;have ku0:=HCg.out 0 _ rfl;have ku1:=HCg.out 1 _ rfl;have kv0:=HCh.out 0 _ rfl;have kv1:=HCh.out 1 _ rfl;obtain⟨q0,q1,q2,q3,q4,q5,q6⟩:=HBX2.out.keep HXT.out HZB.out;have j0:=(HINS.out.keep HXT.out HLT.out) 0 _ rfl;by_cases hu0:u0=0
    ·subst hu0;have HR2:=zH (HYE.out qse);go_wp2_with fail
     go_roundw;case rel=>exact⟨k+1,by omega,by go_num,HR2,HX⟩
     case measure=>simp[intOf];omega
    have bu0:(u0==0)=false:=XK.mpr hu0;obtain⟨r,hr⟩:∃r,jo (zt m.classes) op (t0,t1) (u0,u1)=r:=⟨_,rfl⟩
    by_cases hu4:u0=4
    ·subst hu4;have HD:=zH (q0h.symm.trans hr);obtain⟨z,hz⟩:∃z,vh t0=z:=⟨_,rfl⟩
     have HZR:=zH hz;cases z
     ·have E2:=zH (E1.out.trans (Xa (by rw[HNO.out (q0h.trans (by rw[hz];rfl))];decide)));clear hz hr HD;exact q78
     ·by_cases h34:op=34
      ·by_cases ht2:t0=2
       ·have E2:=zH (E1.out.trans (Xa (by rw[HNO.out (q0h.trans (by rw[h34,ht2];rfl))];decide)));clear hz hr HD;have b34:(op==34)=true:=X6.mpr h34;have bt2:(t0==2)=true:=X6.mpr ht2;clear h34 ht2;exact q78
       ·have HR2:=zH (HYE.out (q0h.trans (by rw[hz,Xf ht2,Bool.and_false];rfl)));clear hz hr HD;have b34:(op==34)=true:=X6.mpr h34;have bt2:(t0==2)=false:=XK.mpr ht2;clear h34;exact q77
      ·have HR2:=zH (HYE.out (q0h.trans (by rw[hz,Xf h34,Bool.false_and];rfl)));clear hz hr HD;have b34:(op==34)=false:=XK.mpr h34;exact q77
    ·have bu4:(u0==4)=false:=XK.mpr hu4;have HD:=zH ((qsd hu0 hu4).symm.trans hr);cases r
     ·have E2:=zH (E1.out.trans (Xa (by rw[HNO.out hr];decide)));clear hr;go_wp2_with(first|(go_at_call 98;(with_reducible refine(q8k HIM2 HXT HCL HD).mono ?_);rintro e w' ⟨rfl,hb⟩;have HX:=zl HX hb;clear hb))
      go_ret3
      rw[E2.out];exact Jl 4 (HW2.out.trans ((HY.out.trans (HX.out.mono HY.out.size)).mono HW2.out.size))
     ·have HR2:=zH (HYE.out hr);clear hr;go_wp2_with(first|(go_at_call 98;(with_reducible refine(q8k HIM2 HXT HCL HD).mono ?_);rintro e w' ⟨rfl,hb⟩;have HX:=zl HX hb;clear hb))
      go_roundw;case rel=>exact⟨k+1,by omega,by go_num,HR2,HX⟩
      case measure=>simp[intOf];omega
  ·obtain rfl:k=TK.length:=by omega
   obtain⟨q0,q1,q2,q3,q4,q5,q6⟩:=HBX2.out.keep (HY.out.trans (HX.out.mono HY.out.size)) HZB.out;have E2:=zH (E1.out.trans (Xb (vc HN.out (by rw[HZl.out];exact zn _))));obtain⟨i0,hi,hz0,hz1,hz2⟩:=qQ ZY;have HXT:=zH (HY.out.trans (HX.out.mono HY.out.size));have HB0:=zH ((zb wr.heap.size wr).alloc (zn _) (.cells #[] 50));have HO0:=zH (Qo wr 50 2);have HA:=zH (((Zn (HST2.out.row.take_ d)).below_to (HXT.out.trans (HB0.out.mono HXT.out.size)) (zn _)):zx (wr.alloc (.cells #[] 50)) w2.heap.size A (zI (st.take d)));have htd:(st.take d).length=d:=by rw[XU];omega
   have hdc:d≤cap:=by omega
   have HE:=zH E2.out;rcases A with _|ad0
   ·have hst0:st.length=0:=Nat.eq_zero_of_not_pos fun q=>by obtain⟨_,e,_⟩:=HST2.out.row.at_ q;exact absurd e (by simp)
    obtain rfl:st=[]:=XZ hst0;obtain rfl:d=0:=by omega
    go_wp2_with(first
     |(at_builtin;refine vt rfl _ _ 23 rfl wr.heap.size 50 i0 (.agg #[.int .i64 0,.int .i64 0]) 2 16 Tryz.underlying23 hi hz0 hz1 hz2 rfl (by decide) _ 0 [] rfl HO0.out none 0 _ _ (zI (([]:List (Int×Int)).take 0)) rfl rfl HA.out (kb _) (by unfold maxLen;omega) (by omega) HB0.out.size ?_;intro v6 w6 hO6 hG6;have HB6:=zH (qN HB0.out HO0.out HB0.out.size hG6);have HO6:=zH hO6;have HG6:=zH (((Zn HG.out.row).below_to (HX.out.trans (HB6.out.mono HX.out.size)) (zn _)):zx w6 w5.heap.size Ag (zI GV));clear hO6 hG6)
     |(at_builtin;refine vt rfl _ _ 23 rfl wr.heap.size 50 i0 (.agg #[.int .i64 0,.int .i64 0]) 2 16 Tryz.underlying23 hi hz0 hz1 hz2 rfl (by decide) _ (0+0) ([]++zI (([]:List (Int×Int)).take 0)) rfl HO6.out Ag GV.length cg _ (zI GV) (kV _) rfl HG6.out (kb _) (by unfold maxLen;omega) (by omega) HB6.out.size ?_;intro v7 w7 hO7 hG7;have HB7:=zH (qN HB6.out HO6.out HB6.out.size hG7);have HO7:=zH hO7;clear hO7 hG7))
    have hO:w7.ownsRow wr.heap.size 50 2 v7 (([]:List (Int×Int)).take 0++GV).length (zI (([]:List (Int×Int)).take 0++GV)):=by
     have:=HO7.out;rw[Xt];unfold zI at this⊢
     rw[Wc];simpa using this
    obtain⟨A7,c7,rfl,hS,_⟩:=kU hO;go_ret3
    rw[HE.out];have hB:=HY.out.trans ((HX.out.trans (HB7.out.mono HX.out.size)).mono HY.out.size);refine⟨A7,c7,An,cn,?_,hS,HNX.out.keep' zq.keeps (Xg HX.out.size HB7.out.size) (fun q hq=>((HX.out.trans (HB7.out.mono HX.out.size)).cell hq)),HW2.out.trans (hB.mono HW2.out.size),HNA.out⟩;show _=Ending.returned (.tuple #[.slice A7 (([]:List (Int×Int)).take 0++GV).length c7,.slice An nl.length cn,.int .i64 0]);rw[HKN.out];rfl
   ·go_wp2_with(first
     |(at_builtin;refine vt rfl _ _ 23 rfl wr.heap.size 50 i0 (.agg #[.int .i64 0,.int .i64 0]) 2 16 Tryz.underlying23 hi hz0 hz1 hz2 rfl (by decide) _ 0 [] rfl HO0.out (some ad0) d cap _ (zI (st.take d)) (by rw[kV,htd]) rfl HA.out (kb _) (by unfold maxLen;omega) (by omega) HB0.out.size ?_;intro v6 w6 hO6 hG6;have HB6:=zH (qN HB0.out HO0.out HB0.out.size hG6);have HO6:=zH hO6;have HG6:=zH (((Zn HG.out.row).below_to (HX.out.trans (HB6.out.mono HX.out.size)) (zn _)):zx w6 w5.heap.size Ag (zI GV));clear hO6 hG6)
     |(at_builtin;refine vt rfl _ _ 23 rfl wr.heap.size 50 i0 (.agg #[.int .i64 0,.int .i64 0]) 2 16 Tryz.underlying23 hi hz0 hz1 hz2 rfl (by decide) _ (0+d) ([]++zI (st.take d)) rfl HO6.out Ag GV.length cg _ (zI GV) (kV _) rfl HG6.out (kb _) (by unfold maxLen;omega) (by omega) HB6.out.size ?_;intro v7 w7 hO7 hG7;have HB7:=zH (qN HB6.out HO6.out HB6.out.size hG7);have HO7:=zH hO7;clear hO7 hG7))
    have hO:w7.ownsRow wr.heap.size 50 2 v7 (st.take d++GV).length (zI (st.take d++GV)):=by
     have:=HO7.out;rw[Xt,htd];unfold zI at this⊢
     rw[Wc];simpa using this
    obtain⟨A7,c7,rfl,hS,_⟩:=kU hO;go_ret3
    rw[HE.out];have hB:=HY.out.trans ((HX.out.trans (HB7.out.mono HX.out.size)).mono HY.out.size);refine⟨A7,c7,An,cn,?_,hS,HNX.out.keep' zq.keeps (Xg HX.out.size HB7.out.size) (fun q hq=>((HX.out.trans (HB7.out.mono HX.out.size)).cell hq)),HW2.out.trans (hB.mono HW2.out.size),HNA.out⟩;show _=Ending.returned (.tuple #[.slice A7 (st.take d++GV).length c7,.slice An nl.length cn,.int .i64 0]);rw[HKN.out];rfl
theorem qmq(m:za)(f pc:Int)(st:List (Int×Int))(A:Option Addr)(cap:Nat)(h:zg)(w:World)(H:zi w w.heap.size h m)(hm:zK m)(hst:zd zh 2 w w.heap.size A cap st)(hs:st.length≤4000):
  Calls Tryz.prog 57 #[zk h m,.int .i64 f,.int .i64 pc,.slice A st.length cap] w (Jz (zD m f pc st) w):=by
 by_cases f0:f<0
 ·exact qi1 m f pc st A cap h w H f0
 by_cases f1:(m.methods.length:Int)≤f
 ·exact qi0 m f pc st A cap h w H (by omega) f1
 by_cases p0:pc<0
 ·exact qhz m f pc st A cap h w H (by omega) (by omega) p0
 obtain⟨F,rfl⟩:=Xm (show 0≤f by omega);obtain⟨P,rfl⟩:=Xm (show 0≤pc by omega);have hF:F<m.methods.length:=by omega
 obtain⟨x,hx⟩:∃x,m.methods[F]? =some x:=⟨_,Xc hF⟩
 by_cases p1:(x.code.length:Int)≤P
 ·exact qhy m x F P st A cap h w H hx (by omega) p1
 have hP:P<x.code.length:=by omega
 obtain⟨⟨op,a,b⟩,hi⟩:∃i,x.code[P]? =some i:=⟨_,Xc hP⟩
 have e:zD m (F:Int) (P:Int) st=qx m x P op a b st:=by
  unfold zD zu;rw[Xe,hx,XY,Xb ⟨by omega,by omega,by omega,by omega⟩,Xe,hi]
 rw[e];have hxm:=hm.method (Xo hx);have him:=Xo hi;have hin:qp op a b=true:=hxm.fits.ct _ him;have hna:zC m x op a b=true:=hxm.co _ him;exact qqv m x F P op a b st A cap h w H hm hx hin hna hi hst hs
theorem qmr(m:za)(f pc:Int)(st:List (Int×Int))(A:Option Addr)(cap:Nat)(h:zg)(w:World)(H:zi w w.heap.size h m)(hm:zK m)(hst:zd zh 2 w w.heap.size A cap st)(hs:st.length≤4000):
  Calls Tryz.prog 57 #[zk h m,.int .i64 f,.int .i64 pc,.slice A st.length cap] w (q6j (zD m f pc st) w):=(qmq m f pc st A cap h w H hm hst hs).mono fun _ _ q=>q.is
theorem qX{α:Type}{At:AtP α}(hK:vy At){k:Nat}{w w':World}{A:Option Addr}{c:Nat}{l:List α}(h:zd At k w w.heap.size A c l)(hb:Below w.heap.size w w'):zd At k w' w'.heap.size A c l:=
 (h.below_to hK hb (zn _)).keep' hK hb.size (fun _ _=>rfl)
theorem qce{m:za}{h:zg}{f pc:Int}{st L:List (Int×Int)}{NL:List Int}{er:Int}{A:Option Addr}{cap n:Nat}{w0 w:World}(HI:Hid (zi w0 w0.heap.size h m))(HX:Hid (Below w0.heap.size w0 w))(HM:Hid (zK m))(HN:Hid (st.length=n))(HS:Hid (zd zh 2 w w.heap.size A cap st))(hs:n≤4000)(HR:Hid (zD m f pc st=⟨L,NL,er⟩)):
  Calls Tryz.prog 57 #[zk h m,.int .i64 f,.int .i64 pc,.slice A n cap] w fun e w'=>∃A c A' c',e= .returned (.tuple #[.slice A L.length c,.slice A' NL.length c',.int .i64 er])∧zd zh 2 w' w'.heap.size A c L∧zd zq 1 w' w'.heap.size A' c' NL∧Below w.heap.size w w':=by
 obtain rfl:=HN.out;have H:=qmr m f pc st A cap h w (HI.out.now HX.out) HM.out HS.out hs;rw[HR.out]at H;exact H
theorem slcDr{α:Type}{At:AtP α}(hK:vy At){k:Nat}{w:World}{A:Option Addr}{c:Nat}{l:List α}(h:zd At k w w.heap.size A c l):zd At k w.drew w.drew.heap.size A c l:=h.keep' hK (zn _) (fun _ _=>rfl)
theorem qbd{w:World}{B:Nat}{h:zg}{m:za}(H:zi w B h m){G:Nat}(hG:G<m.methods.length):∃ad A4 j4,h.A3=some ad∧ad.block<B∧w.cell? (zc (ad.add (G*8)) 4)=some (.slice A4 m.methods[G].code.length j4):=by
 obtain⟨ad,hn,e0,hb,hmi,hmc⟩:=jJ H hG;exact⟨ad,hn.A4,hn.k4,e0,hb,hmc.c4⟩
theorem YD{m:za}{x:zf}{F P:Nat}{op a b:Int}{st:List (Int×Int)}(hx:m.methods[F]? =some x)(hi:x.code[P]? =some (op,a,b)):zD m F P st=qx m x P op a b st:=by
 have hF:=(Xw.mp hx).1;have hP:=(Xw.mp hi).1;unfold zD zu;rw[Xe,hx,XY,Xb ⟨by omega,by omega,by omega,by omega⟩,Xe,hi]
theorem qr2{m:za}{f pc:Int}{S:List zm}(hs:(zr S pc).seen=false):ve m f S pc=true:=by unfold ve;rw[hs];rfl
structure zj where
 seen:Bool
 A:Option Addr
 c:Nat
 stack:List (Int×Int)
def zj.shp(x:zj):zm:=⟨x.seen,x.stack⟩
def ZS(x:zj):List Value:=[.bool x.seen,.slice x.A x.stack.length x.c]
def Zz(X:List zj):List Value:=X.flatMap ZS
structure qr(w:World)(g:Nat)(X:List zj):Prop where
 blk:ze w g (Zz X) 75
 row:∀x ∈X,zd zh 2 w w.heap.size x.A x.c x.stack
theorem qqq(X:List zj):(Zz X).length=X.length*2:=q1g (f:=ZS) (k:=2) (fun _=>rfl) X
theorem qr.seen_at{w:World}{g i:Nat}{X:List zj}(h:qr w g X)(hi:i<X.length):w.cell? ⟨g,i*2,none⟩=some (.bool X[i].seen):=
 h.blk.cells _ _ (Zm (f:=ZS) (k:=2) (fun _=>rfl) X i 0 X[i] (Xc hi) (by decide))
theorem qr.stack_at{w:World}{g i:Nat}{X:List zj}(h:qr w g X)(hi:i<X.length):w.cell? ⟨g,i*2+1,none⟩=some (.slice X[i].A X[i].stack.length X[i].c):=
 h.blk.cells _ _ (Zm (f:=ZS) (k:=2) (fun _=>rfl) X i 1 X[i] (Xc hi) (by decide))
theorem qr.noint{w:World}{g:Nat}{X:List zj}(h:qr w g X){p:Addr}{k:IntKind}{v:Int}(hp:p.block=g):¬w.cell? p=some (.int k v):=fun e=>by
 have hb:=h.blk;unfold ze at hb;unfold World.cell? at e;rw[hp,hb]at e;simp at e;obtain⟨_,e⟩:=e;have hm:(Value.int k v) ∈Zz X:=Xo e;obtain⟨x,_,hx⟩:=List.mem_flatMap.mp hm;simp[ZS]at hx
theorem qr.ty_apart{w:World}{g B c i:Nat}{X:List zj}{A:Option Addr}{L:List (Int×Int)}(h:qr w g X)(hs:zd zh 2 w B A c L)(hi:i<L.length):∀ad,A=some ad→ad.block≠g:=fun ad e q=>by
 obtain⟨ad',e',_,h0,_⟩:=hs.row.at_ hi;rw[e]at e';injection e' with e';subst e';exact h.noint (p:=ad.add (i*2)) (by rw[zp];exact q) h0
theorem qr.int_apart{w:World}{g B c i:Nat}{X:List zj}{A:Option Addr}{L:List Int}(h:qr w g X)(hs:zd zq 1 w B A c L)(hi:i<L.length):∀ad,A=some ad→ad.block≠g:=fun ad e q=>by
 obtain⟨ad',e',_,h0⟩:=hs.row.at_ hi;rw[e]at e';injection e' with e';subst e';exact h.noint (p:=ad.add (i*1)) (by rw[zp];exact q) h0
theorem YF{w w':World}{g B C c:Nat}{A:Option Addr}{L:List (Int×Int)}(hs:zd zh 2 w B A c L)(hC:B≤C)(hk:∀q:Addr,q.block≠g→w'.cell? q=w.cell? q)(ha:∀i,i<L.length→∀ad,A=some ad→ad.block≠g):zd zh 2 w' C A c L:=
 ⟨hs.le,hs.cap,fun i t hi=>by
  obtain⟨ad,e,hb,h0,h1⟩:=hs.row i t hi;have hil:i<L.length:=by
   rcases Xj i L.length with q|q
   ·exact q
   ·rw[Xu q]at hi;cases hi
  have hn:=ha i hil ad e;refine⟨ad,e,Xp hb hC,(hk _ (by rw[zp];exact hn)).trans h0,(hk _ (by show(ad.add _).block≠g;rw[zp];exact hn)).trans h1⟩⟩
theorem qb9{w w':World}{g B C c:Nat}{A:Option Addr}{L:List Int}(hs:zd zq 1 w B A c L)(hC:B≤C)(hk:∀q:Addr,q.block≠g→w'.cell? q=w.cell? q)(ha:∀i,i<L.length→∀ad,A=some ad→ad.block≠g):zd zq 1 w' C A c L:=
 ⟨hs.le,hs.cap,fun i t hi=>by
  obtain⟨ad,e,hb,h0⟩:=hs.row i t hi;have hil:i<L.length:=by
   rcases Xj i L.length with q|q
   ·exact q
   ·rw[Xu q]at hi;cases hi
  have hn:=ha i hil ad e;exact⟨ad,e,Xp hb hC,(hk _ (by rw[zp];exact hn)).trans h0⟩⟩
theorem qr.keep{w w':World}{g:Nat}{X:List zj}(h:qr w g X)(hb:Below w.heap.size w w'):qr w' g X:=
 ⟨h.blk.keep hb h.blk.lt,fun x hx=>((h.row x hx).below_to zh.keeps hb (zn _)).keep' zh.keeps hb.size (fun _ _=>rfl)⟩
abbrev ji(w:World)(g i:Nat)(x:zj):World:=(w.setCell ⟨g,i*2,none⟩ (.bool x.seen)).setCell ⟨g,i*2+1,none⟩ (.slice x.A x.stack.length x.c)
theorem q04(w:World)(g i:Nat)(x:zj):∀q:Addr,q.block≠g→(ji w g i x).cell? q=w.cell? q:=fun q hq=>by
 unfold ji;rw[World.cell?_setCell_far _ _ _ _ (fun e=>hq e.symm),World.cell?_setCell_far _ _ _ _ (fun e=>hq e.symm)]
theorem qcb:∀(X:List zj) (i:Nat) (x:zj),(Zz (X.set i x))=((Zz X).set (i*2) (.bool x.seen)).set (i*2+1) (.slice x.A x.stack.length x.c)∨X.length≤i
 | [],i,x=> .inr (Xl _)
 |y::X,0,x=> .inl rfl
 |y::X,i+1,x=>by
  rcases qcb X i x with h|h
  ·refine .inl ?_;show ZS y++Zz (X.set i x)=((ZS y++Zz X).set _ _).set _ _;rw[h,show(i+1)*2=i*2+2 by omega];rfl
  ·exact .inr (by simp;omega)
theorem qr.put{w:World}{g i:Nat}{X:List zj}{x:zj}(h:qr w g X)(hi:i<X.length)(hx:zd zh 2 w w.heap.size x.A x.c x.stack):qr (ji w g i x) g (X.set i x):=by
 have hz:(ji w g i x).heap.size=w.heap.size:=by simp[ji]
 have hap:∀{A:Option Addr} {c:Nat} {L:List (Int×Int)},zd zh 2 w w.heap.size A c L→zd zh 2 (ji w g i x) (ji w g i x).heap.size A c L:=fun {A c L} hs=>
  YF hs (by rw[hz];exact zn _) (q04 w g i x) (fun j hj=>h.ty_apart hs hj)
 refine⟨?_,fun y hy=> ?_⟩
 ·rcases qcb X i x with e|e
  ·rw[e];exact(h.blk.set _ _).set _ _
  ·omega
 ·rcases Wf hy with q|q
  ·exact hap (h.row y q)
  ·rw[q];exact hap hx
def Dry(w:World)(v:Value):Prop:=∀g,v.ownBlock=some g→∀q:Addr,q.block=g→∀k x,¬w.cell? q=some (.int k x)
theorem q2w{w:World}{g:Nat}{arr:Array Value}{e:TypeId}{fz:Nat×Nat}(h:w.heap[g]? =some (.cells arr e fz))(hn:∀u ∈arr.toList,∀k x,u≠ .int k x):∀q:Addr,q.block=g→∀k x,¬w.cell? q=some (.int k x):=by
 intro q hq k x hc;unfold World.cell? at hc;rw[hq,h]at hc;dsimp only at hc;split at hc
 ·cases hc
 ·exact hn _ (Array.mem_toList_iff.mpr (Array.mem_of_getElem? hc)) _ _ rfl
theorem dry_in{w:World}{g:Nat}{arr:Array Value}{e:TypeId}{fz:Nat×Nat}(h:w.heap[g]? =some (.cells arr e fz))(hd:∀q:Addr,q.block=g→∀k x,¬w.cell? q=some (.int k x)):∀u ∈arr.toList,∀k x,u≠ .int k x:=by
 intro u hu k x e;subst e;obtain⟨j,hj⟩:=List.mem_iff_getElem?.mp hu;refine hd ⟨g,j,none⟩ rfl k x ?_;unfold World.cell?;dsimp only;rw[h];dsimp only;rw[←Array.getElem?_toList,hj];rfl
theorem qbo(n:Nat):∀u ∈(Builtin.zeroCells (Value.slice none 0 0).cells n).toList,∀k x,u≠ .int k x:=by
 intro u hu k x e;subst e;unfold Builtin.zeroCells at hu;simp[Value.cells]at hu;obtain⟨a,_,h⟩:=hu;rw[Nat.mod_one]at h;simp at h
theorem Dry.below{w w':World}{v:Value}(h:Dry w v)(hv:∀g,v.ownBlock=some g→g<w.heap.size)(hb:Below w.heap.size w w'):Dry w' v:=fun g hg q hq k x=>by
 rw[hb.cell (by rw[hq];exact hv g hg)];exact h g hg q hq k x
theorem qov(w:World)(T:TypeId):Dry (w.alloc (.cells #[] T)) (.slice (some ⟨w.heap.size,0,none⟩) 0 0):=fun g hg=>by
 simp[Value.ownBlock]at hg;subst hg;exact q2w (XO _ _) (fun u hu=>by simp at hu)
theorem qev{P:Program}(w:World)(base:Nat)(t ty e:TypeId)(i:TypeInfo)(bytes:Nat)(ht:P.underlying t=some (.slice e))(hi:P.info? e=some i)(hz:i.zero=some (.slice none 0 0))
  (hsize:i.size=1) (hby:i.bytes=bytes) (v:Value) (n:Nat) (xs:List Value) (hown:w.ownsRow base e 1 v n xs) (hd:Dry w v)
  (a:Addr) (c:Nat) (A':Option Addr) (n' c':Nat) (hnews:w.cell? (a.add 0)=some (.slice A' n' c'))
  (h63:n+1≤maxLen) (hbytes:(n+1)*bytes≤140737488355328) (hbase:base≤w.heap.size):
  ∃g cap w',(Builtin.append_ #[t,t] ty #[v,.slice (some a) 1 c]).run P w= .ok (.slice (some ⟨g,0,none⟩) (n+1) cap) w'∧w'.ownsRow base e 1 (.slice (some ⟨g,0,none⟩) (n+1) cap) (n+1) (xs++[.slice A' n' c'])∧
   w.grownBy w' v.ownBlock∧(v.ownBlock=some g∨g=w.heap.size)∧g<w'.heap.size∧Dry w' (.slice (some ⟨g,0,none⟩) (n+1) cap):=by
 have hnw:∀j u,[Value.slice A' n' c'][j]? =some u→w.cell? (a.add j)=some u:=fun j u hj=>by
  match j,hj with
  |0,hj=>simp at hj;subst hj;exact hnews
  |j+1,hj=>simp at hj
 have h1:∀u ∈ [Value.slice A' n' c'],u.oneCell'=true:=fun u hu=>by simp at hu;subst hu;rfl
 have hsmall:n+1≤9223372036854775807:=by simp only[maxLen]at h63;omega
 obtain⟨v',w',hr,h2,h3,h4,h5⟩:=run_append_own_at (P:=P) w base t ty e i (.slice none 0 0) 1 bytes ht hi hz hsize hby rfl (by decide) v n xs hown a 1 c [.slice A' n' c'] rfl hnw h1 h63 hbytes hbase;have hnot:∀u:Value,u= .slice A' n' c'→∀k x,u≠ .int k x:=fun u hu k x e=>by rw[hu]at e;cases e
 obtain⟨g,cap,rfl,hlt⟩:∃g cap,v'= .slice (some ⟨g,0,none⟩) (n+1) cap∧g<w'.heap.size:=by
  rcases h2.2 with⟨_,q⟩|⟨g,cap,cur,e1,_,hg,_⟩
  ·omega
  ·exact⟨g,cap,e1,(Array.getElem?_eq_some_iff.1 hg).1⟩
 refine⟨g,cap,w',hr,h2,h3,?_,hlt,fun g' hg'=> ?_⟩
 ·rcases h5 with h5|h5
  ·exact .inl (h5.symm.trans rfl)
  ·simp[Value.ownBlock]at h5;exact .inr h5
 ·simp[Value.ownBlock]at hg';subst hg';rcases hown.2 with⟨rfl,rfl⟩|⟨gv,capv,cur,rfl,hbg,hg,hnc,hcm,hcs,htake⟩
  ·have hq:=run_append_nil (P:=P) w t ty e i (.slice none 0 0) ht hi hz a 1 c [.slice A' n' c'] (by rw[hsize];rfl) hnw (by decide) (by decide) (by rw[hby];omega);rw[hr]at hq;injection hq with q1 q2;injection q1 with q1;injection q1 with q1;simp at q1;subst q1 q2;refine q2w (XO w.drew _) fun u hu=> ?_;simp only[Array.toList_append]at hu;rcases Xs.mp hu with hu|hu
   ·simp at hu;exact hnot u hu
   ·exact qbo _ u hu
  ·have hcd:=dry_in hg (hd gv rfl);by_cases hroom:n+1≤capv
   ·have hq:=run_append_room (P:=P) w t ty e i ht hi gv n capv cur hg a 1 c [.slice A' n' c'] (by rw[hsize];rfl) hnw h1 hroom (by rw[hsize,hcs];simp;omega);rw[hr]at hq;injection hq with q1 q2;injection q1 with q1;injection q1 with q1;simp at q1;subst q1 q2;refine q2w (setRow_heap w _ cur _ e _ hg) fun u hu=> ?_;simp only[X8]at hu;rcases Xs.mp hu with hu|hu
    ·exact hcd u (List.mem_of_mem_take hu)
    ·rcases Xs.mp hu with hu|hu
     ·simp at hu;exact hnot u hu
     ·exact hcd u (List.mem_of_mem_drop hu)
   ·have holds:∀j u,xs[j]? =some u→w.cell? ((⟨gv,0,none⟩:Addr).add j)=some u:=hown.cells (g:=gv) rfl;have hq:=run_append_grow (P:=P) w t ty e i (.slice none 0 0) ht hi hz ⟨gv,0,none⟩ n capv xs (by rw[hsize];exact hown.1) holds a 1 c [.slice A' n' c'] (by rw[hsize];rfl) hnw (by omega) (by omega) (growslice_fits (by omega) (by rw[hby];exact hbytes));rw[hr]at hq;injection hq with q1 q2;injection q1 with q1;injection q1 with q1;simp at q1;subst q1 q2;refine q2w (XO w.drew _) fun u hu=> ?_;simp only[Array.toList_append]at hu;rcases Xs.mp hu with hu|hu
    ·rcases Xs.mp hu with hu|hu
     ·exact hcd u (by rw[←htake]at hu;exact List.mem_of_mem_take (by simpa using hu))
     ·simp at hu;exact hnot u hu
    ·exact qbo _ u hu
theorem qa0{P:Program}{w:World}{ops:Array Oper}{rest:List Oper}{o:Oper}{a:Act}{Q:Exit→Act→World→Prop}(hgd:o.guard=none)(s x:Operand)(t:TypeId)
  (ho:o.op= .call {callee:= .builtin .append,args:= #[s,x],argTypes:= #[t,t]})
  (base:Nat) (e:TypeId) (i:TypeInfo) (bytes:Nat) (ht:P.underlying t=some (.slice e)) (hi:P.info? e=some i) (hz:i.zero=some (.slice none 0 0))
  (hsize:i.size=1) (hby:i.bytes=bytes) (v:Value) (n:Nat) (xs:List Value) (hs:a.eval s=v) (hown:w.ownsRow base e 1 v n xs) (hd:Dry w v)
  (ad:Addr) (c:Nat) (A':Option Addr) (n' c':Nat) (hx:a.eval x= .slice (some ad) 1 c) (hnews:w.cell? (ad.add 0)=some (.slice A' n' c'))
  (h63:n+1≤maxLen) (hbytes:(n+1)*bytes≤140737488355328) (hbase:base≤w.heap.size) (H:Nat) (hH:w.heap.size=H)
  (h:∀g cap w',w'.ownsRow base e 1 (.slice (some ⟨g,0,none⟩) (n+1) cap) (n+1) (xs++[.slice A' n' c'])→w.grownBy w' v.ownBlock→(v.ownBlock=some g∨g=H)→g<w'.heap.size→Dry w' (.slice (some ⟨g,0,none⟩) (n+1) cap)→wpList P ops Q rest (a.put o.dst (.slice (some ⟨g,0,none⟩) (n+1) cap)) w'):
  wpList P ops Q (o::rest) a w:=by
 refine wpList_plain hgd fun K hK=> ?_;obtain⟨g,cap,w',hr,h2,h3,h4,h5,h6⟩:=qev (P:=P) w base t o.type e i bytes ht hi hz hsize hby v n xs hown hd ad c A' n' c' hnews h63 hbytes hbase;unfold Oper.wp execOp;simp only[ho,resolve,invoke,builtin,Sem.run_bind,Sem.run_pure,Result.andThen_ok,List.map_toArray,List.map_cons,List.map_nil,hs,hx,hr];exact hK _ _ (h g cap w' h2 h3 (hH ▸ h4) h5 h6)
def YR(m:za)(f q:Int):List Int:=match(zu m f).code[q.toNat]? with
 |some i=>qE q i.1 i.2.1
 |none=> []
theorem qnr{m:za}{x:zf}{F P:Nat}{op a b:Int}(hx:m.methods[F]? =some x)(hi:x.code[P]? =some (op,a,b)):YR m F P=qE P op a:=by
 unfold YR zu;rw[Xe,hx,XY,Xe,hi]
theorem q7q{m:za}{x:zf}{pc op a b:Int}{st:List (Int×Int)}(he:(qx m x pc op a b st).err=0):(qx m x pc op a b st).next=qE pc op a∧(qx m x pc op a b st).after.length≤8:=by
 have e4:¬(qw 4).err=0:=by unfold qw;decide
 unfold qx at he⊢
 by_cases h1:(qE pc op a).head?.any (fun n=>decide ((x.code.length:Int)≤n))=true
 ·rw[Xb h1]at he;exact absurd he e4
 rw[Xa h1]at he⊢
 by_cases h2:(op=6∧st=[])∨st.length<(takes m x op a b st).length∨8<st.length - (takes m x op a b st).length+(vM m x op a b st).length
 ·rw[Xb h2]at he;exact absurd he e4
 rw[Xa h2]at he⊢
 by_cases h3:((st.drop (st.length - (takes m x op a b st).length)).zip (takes m x op a b st)).all (fun p=>jo (zt m.classes) op p.1 p.2)=true
 ·rw[Xb h3];refine⟨rfl,?_⟩;have:¬8<st.length - (takes m x op a b st).length+(vM m x op a b st).length:=fun q=>h2 (.inr (.inr q));show(List.take _ st++_).length≤8;rw[Xt,XU];omega
 ·rw[Xa h3]at he;exact absurd he e4
def qai(m:za)(f:Int)(S:List zm)(pc:Nat):Prop:=(zr S pc).seen=true→(zD m f pc (zr S pc).stack).err=0∧∀n ∈(zD m f pc (zr S pc).stack).next,(zr S n).seen=true∧(zD m f pc (zr S pc).stack).after.length=(zr S n).stack.length
structure YW(m:za)(f:Int)(S:List zm):Prop where
 len:S.length=(zu m f).code.length
 first:(zr S 0).seen=true
 pred:∀i:Nat,i<S.length→i≠0→(zr S i).seen=true→∃q:Nat,q<S.length∧q≠i∧(zr S q).seen=true∧(i:Int) ∈YR m f q
 small:∀s ∈S,s.stack.length≤8
structure VG(m:za)(f:Int)(S:List zm):Prop where
 grow:YW m f S
 done:∀pc,pc<S.length→qai m f S pc
theorem YG{S:List zm}{q i:Nat}{s:zm}(hq:q<S.length):zr (S.set q s) (i:Int)=if i=q then s else zr S (i:Int):=by
 unfold zr;rw[Xe,Wg];by_cases h:q=i
 ·subst h;rw[Xb rfl,Xb rfl,Xb hq];rfl
 ·rw[Xa h,Xa (fun e=>h e.symm)]
theorem YW.put{m:za}{f:Int}{S:List zm}(h:YW m f S){p q:Nat}{L:List (Int×Int)}(hq:q<S.length)(hp:p<S.length)(hs:(zr S p).seen=true)(hn:(q:Int) ∈YR m f p)(hL:L.length≤8):YW m f (S.set q ⟨true,L⟩):=by
 have hset:∀i:Nat,zr (S.set q ⟨true,L⟩) (i:Int)=if i=q then⟨true,L⟩else zr S (i:Int):=fun i=>YG hq
 have hkeep:∀i:Nat,(zr S i).seen=true→(zr (S.set q ⟨true,L⟩) (i:Int)).seen=true:=fun i hi=>by
  rw[hset];by_cases e:i=q
  ·rw[Xb e]
  ·rw[Xa e];exact hi
 refine⟨by rw[XD];exact h.len,hkeep 0 h.first,fun i hi h0 hsi=> ?_,fun s hs'=> ?_⟩
 ·rw[XD]at hi;rw[XD];by_cases e:(zr S i).seen=true
  ·obtain⟨r,r1,r2,r3,r4⟩:=h.pred i hi h0 e;exact⟨r,r1,r2,hkeep r r3,r4⟩
  ·have hiq:i=q:=by
    rw[hset]at hsi;by_cases e2:i=q
    ·exact e2
    ·rw[Xa e2]at hsi;exact absurd hsi e
   subst hiq;exact⟨p,hp,fun e2=>e (by rw[←e2];exact hs),hkeep p hs,hn⟩
 ·rcases Wf hs' with g|g
  ·exact h.small s g
  ·rw[g];exact hL
theorem JT{X:List zj}{i:Nat}(hi:i<X.length):zr (X.map zj.shp) (i:Int)=X[i].shp:=by
 rw[Qw (by rw[Xi];exact hi),List.getElem_map]
structure SeenS(m:za)(f:Int)(S:List zm):Prop where
 len:S.length=(zu m f).code.length
 first:(zr S 0).seen=true
 small:∀s ∈S,s.stack.length≤8
structure Jh(m:za)(f:Int)(S:List zm):Prop where
 grow:SeenS m f S
 done:∀pc,pc<S.length→qai m f S pc
theorem VG.set{m:za}{f:Int}{S:List zm}(h:VG m f S):Jh m f S:=⟨⟨h.grow.len,h.grow.first,h.grow.small⟩,h.done⟩
def jg(sup:List Int)(s t:Int×Int):Int×Int:=if zw sup t.1 t.2 s.1 s.2=true then s else qe sup s.1 s.2 t.1 t.2
theorem QT{sup:List Int}{k n:Int}(h:zw sup k n k n=true):q0q sup k n:=fun e=>by
 subst e;rw[vv]at h;rcases h with⟨h,_⟩|⟨_,_,h⟩|⟨h,_,_⟩
 ·omega
 ·have:=kj h;omega
 ·omega
theorem qb8{sup:List Int}{k n k' n':Int}(h:(qe sup k n k' n').1=0):qe sup k n k' n'=(0,0):=by
 by_cases h1:zw sup k n k' n'=true
 ·have e:qe sup k n k' n'=(k',n'):=by unfold qe;rw[Xb h1]
  rw[e]at h;have:=(Vk h1).2;dsimp only at h;omega
 ·by_cases h2:zw sup k' n' k n=true
  ·have e:qe sup k n k' n'=(k,n):=by unfold qe;rw[Xa h1,Xb h2]
   rw[e]at h;have:=(Vk h2).2;dsimp only at h;omega
  ·by_cases h3:k=3∧k'=3
   ·have e:qe sup k n k' n'=qP ((zv sup n).drop 1) (zv sup n'):=by unfold qe;rw[Xa h1,Xa h2,Xb h3]
    obtain⟨rfl,rfl⟩:=h3;have a1:n' ∉zv sup n:=fun h=>h1 ((vv ..).mpr (.inr (.inl ⟨rfl,rfl,h⟩)));have a2:n ∉zv sup n':=fun h=>h2 ((vv ..).mpr (.inr (.inl ⟨rfl,rfl,h⟩)));rw[e]at h⊢
    rcases q2t a1 a2 with⟨e1,_⟩|⟨x,e1,_⟩
    ·exact e1
    ·rw[e1]at h;cases h
   ·unfold qe;rw[Xa h1,Xa h2,Xa h3]
theorem qjc{sup:List Int}{s t:Int×Int}(hs:zw sup s.1 s.2 s.1 s.2=true)(ht:zw sup t.1 t.2 t.1 t.2=true)(h:(jg sup s t).1=0):
  jg sup s t=(0,0)∧∀u:Int×Int,zw sup s.1 s.2 u.1 u.2=true→zw sup t.1 t.2 u.1 u.2=true→False:=by
 unfold jg at h⊢
 by_cases g:zw sup t.1 t.2 s.1 s.2=true
 ·rw[Xb g]at h;have:=(Vk g).2;omega
 ·rw[Xa g]at h;rw[Xa g];refine⟨qb8 h,fun u=> ?_⟩;rcases q19 (QT hs) (QT ht)with⟨_,q⟩|⟨q,_⟩
  ·exact q u.1 u.2
  ·exact absurd h q
theorem q44{sup:List Int}{s t:Int×Int}(hs:zw sup s.1 s.2 s.1 s.2=true)(ht:zw sup t.1 t.2 t.1 t.2=true)(h:¬(jg sup s t).1=0):
  zw sup s.1 s.2 (jg sup s t).1 (jg sup s t).2=true∧zw sup t.1 t.2 (jg sup s t).1 (jg sup s t).2=true∧
  ∀u:Int×Int,zw sup s.1 s.2 u.1 u.2=true→zw sup t.1 t.2 u.1 u.2=true→zw sup (jg sup s t).1 (jg sup s t).2 u.1 u.2=true:=by
 unfold jg at h⊢
 by_cases g:zw sup t.1 t.2 s.1 s.2=true
 ·rw[Xb g];exact⟨hs,g,fun u a _=>a⟩
 ·rw[Xa g]at h;rw[Xa g];rcases q19 (QT hs) (QT ht)with⟨q,_⟩|⟨_,q1,q2,q3⟩
  ·exact absurd q h
  ·exact⟨q1,q2,fun u=>q3 u.1 u.2⟩
def qI(sup:List Int):List (Int×Int)→List (Int×Int)→Nat→List (Int×Int)
 |s::ss,t::ts,k+1=>jg sup s t::qI sup ss ts k
 |ss,_,_=>ss
theorem q4a(sup:List Int)(ss ts:List (Int×Int)):qI sup ss ts 0=ss:=by
 cases ss with
 |nil=>rfl
 |cons s ss=>
  cases ts with
  |nil=>rfl
  |cons t ts=>rfl
theorem Qr(sup:List Int):∀(ss ts:List (Int×Int)) (k:Nat),(qI sup ss ts k).length=ss.length
 | [],_,_=>by simp[qI]
 |s::ss,[],_=>by simp[qI]
 |s::ss,t::ts,0=>by rw[q4a]
 |s::ss,t::ts,k+1=>by
  show(jg sup s t::qI sup ss ts k).length=_;rw[XL,Qr sup ss ts k,XL]
theorem Vq(sup:List Int):∀(ss ts:List (Int×Int)) (k i:Nat) (h1:i<ss.length) (h2:i<ts.length),(qI sup ss ts k)[i]? =some (if i<k then jg sup ss[i] ts[i]else ss[i])
 | [],_,_,_,h,_=>by simp at h
 |s::ss,[],_,_,_,h=>by simp at h
 |s::ss,t::ts,0,i,h1,h2=>by
  rw[q4a,Xa (Nat.not_lt_zero _),Xc h1]
 |s::ss,t::ts,k+1,0,h1,h2=>by
  rw[Xb (Nat.succ_pos _)];rfl
 |s::ss,t::ts,k+1,i+1,h1,h2=>by
  have h:=Vq sup ss ts k i (by simpa using h1) (by simpa using h2);show(qI sup ss ts k)[i]? =_;rw[h];by_cases g:i<k
  ·rw[Xb g,Xb (Nat.succ_lt_succ g)];rfl
  ·rw[Xa g,Xa (by omega)];rfl
theorem qdb(sup:List Int){ss ts:List (Int×Int)}{k:Nat}(h1:k<ss.length)(h2:k<ts.length):(qI sup ss ts k)[k]? =some ss[k]:=by
 rw[Vq sup ss ts k k h1 h2,Xa (Nat.lt_irrefl _)]
theorem q9t(sup:List Int){ss ts:List (Int×Int)}{k:Nat}(hl:ss.length=ts.length)(h1:k<ss.length)(h2:k<ts.length):qI sup ss ts (k+1)=(qI sup ss ts k).set k (jg sup ss[k] ts[k]):=by
 refine List.ext_getElem? fun i=> ?_;rcases Xj i ss.length with hi|hi
 ·rw[Vq sup ss ts (k+1) i hi (by omega),Wg,Vq sup ss ts k i hi (by omega)];by_cases e:k=i
  ·subst e;rw[Xb (Nat.lt_succ_self _),Xb rfl,Xb (by rw[Qr];exact h1)]
  ·rw[Xa e];by_cases g:i<k
   ·rw[Xb g,Xb (by omega)]
   ·rw[Xa g,Xa (by omega)]
 ·rw[Xu (by rw[Qr];exact hi),Xu (by rw[XD,Qr];exact hi)]
theorem qkr(sup:List Int){ss ts:List (Int×Int)}{k:Nat}(hl:ss.length=ts.length)(h1:k<ss.length)(h2:k<ts.length)(h:zw sup ts[k].1 ts[k].2 ss[k].1 ss[k].2=true):qI sup ss ts (k+1)=qI sup ss ts k:=by
 have e:jg sup ss[k] ts[k]=ss[k]:=by unfold jg;rw[Xb h]
 rw[q9t sup hl h1 h2,e];refine List.ext_getElem? fun i=> ?_;rw[Wg];by_cases q:k=i
 ·subst q;rw[Xb rfl,Xb (by rw[Qr];exact h1),qdb sup h1 h2]
 ·rw[Xa q]
theorem zF.trans'{sup:List Int}{a b c:List (Int×Int)}(h:zF sup a b)(g:zF sup b c):zF sup a c:=
 ⟨h.1.trans g.1,fun i h1 h2=>q3u (h.2 i h1 (by rw[←h.1];exact h1)) (g.2 i (by rw[←h.1];exact h1) h2)⟩
theorem q2l(sup:List Int):zF sup [] []:=⟨rfl,fun i h=>by simp at h⟩
def vU(t:Int×Int):Prop:=t.1=4→t.2=0
def jQ(l:List (Int×Int)):Prop:=∀t ∈l,vU t
theorem q9d{sup:List Int}{s t:Int×Int}(hs:vU s)(ht:vU t):vU (qe sup s.1 s.2 t.1 t.2):=by
 unfold qe;split
 ·exact ht
 ·split
  ·exact hs
  ·split
   ·unfold vU;intro e;have h3:∀(a b:List Int),(qP a b).1=4→(qP a b).2=0:=by
     intro a b
     induction a with
     |nil=>intro _;rfl
     |cons x r ih=>
      unfold qP;split
      ·intro e;exact absurd e (show ¬(3:Int)=4 by decide)
      ·exact ih
    exact h3 _ _ e
   ·intro e;cases e
theorem qjb{sup:List Int}{s t:Int×Int}(hs:vU s)(ht:vU t):vU (jg sup s t):=by
 unfold jg;split
 ·exact hs
 ·exact q9d hs ht
structure vL(sup:List Int)(s:zm)(st J:List (Int×Int))(grown:Bool):Prop where
 up:zF sup st J
 old:s.seen=true→zF sup s.stack J
 least:∀U,(s.seen=true→zF sup s.stack U)→zF sup st U→zF sup J U
 same:grown=false→s.seen=true∧J=s.stack
 more:grown=true→s.seen=true→¬zF sup J s.stack
 null:(s.seen=true→jQ s.stack)→jQ st→jQ J
def Yd(sup:List Int)(s:zm)(st:List (Int×Int)):Prop:=s.seen=true∧∀U,zF sup s.stack U→zF sup st U→False
theorem q9s{sup:List Int}{s:zm}{st:List (Int×Int)}(h:s.seen=false)(hst:zF sup st st):vL sup s st st true:=
 ⟨hst,(fun e=>by rw[h]at e;cases e),fun U _ g=>g,(fun e=>by cases e),(fun _ e=>by rw[h]at e;cases e),fun _ q=>q⟩
theorem qbq{sup:List Int}{s:zm}{st:List (Int×Int)}(h:s.seen=true)(hl:¬st.length=s.stack.length):Yd sup s st:=⟨h,fun U g1 g2=>hl (g2.1.trans g1.1.symm)⟩
theorem qp9{sup:List Int}{s:zm}{st:List (Int×Int)}{i:Nat}(h:s.seen=true)(h1:i<s.stack.length)(h2:i<st.length)(hs:zF sup s.stack s.stack)(ht:zF sup st st)(hz:(jg sup s.stack[i] st[i]).1=0):Yd sup s st:=
 ⟨h,fun U g1 g2=>(qjc (hs.2 i h1 h1) (ht.2 i h2 h2) hz).2 U[i]! (by
  have hU:i<U.length:=by rw[←g1.1];exact h1
  rw[getElem!_pos U i hU];exact g1.2 i h1 hU) (by
  have hU:i<U.length:=by rw[←g1.1];exact h1
  rw[getElem!_pos U i hU];exact g2.2 i h2 hU)⟩
theorem qsj{sup:List Int}{s:zm}{st:List (Int×Int)}{grown:Bool}(h:s.seen=true)(hl:st.length=s.stack.length)(hs:zF sup s.stack s.stack)(ht:zF sup st st)
  (hz:∀(i:Nat) (h1:i<s.stack.length) (h2:i<st.length),¬(jg sup s.stack[i] st[i]).1=0)
  (hg0:grown=false→∀(i:Nat) (h1:i<s.stack.length) (h2:i<st.length),zw sup st[i].1 st[i].2 s.stack[i].1 s.stack[i].2=true)
  (hg1:grown=true→∃(i:Nat) (h1:i<s.stack.length) (h2:i<st.length),¬zw sup st[i].1 st[i].2 s.stack[i].1 s.stack[i].2=true):
  vL sup s st (qI sup s.stack st st.length) grown:=by
 have hlen:(qI sup s.stack st st.length).length=s.stack.length:=Qr ..;have hat:∀(i:Nat) (h1:i<s.stack.length) (h2:i<st.length) (h3:i<(qI sup s.stack st st.length).length),(qI sup s.stack st st.length)[i]=jg sup s.stack[i] st[i]:=fun i h1 h2 h3=>by
  have:=Vq sup s.stack st st.length i h1 h2;rw[Xb h2,Xc h3]at this;exact Option.some.inj this
 have hup:zF sup st (qI sup s.stack st st.length):=⟨by rw[hlen,hl],fun i h1 h2=>by
  have h0:i<s.stack.length:=by omega
  rw[hat i h0 h1 h2];exact(q44 (hs.2 i h0 h0) (ht.2 i h1 h1) (hz i h0 h1)).2.1⟩
 refine⟨hup,fun _=>⟨hlen.symm,fun i h1 h2=> ?_⟩,fun U g1 g2=>⟨by rw[hlen];exact(g1 h).1,fun i h1 h2=> ?_⟩,fun e=>⟨h,?_⟩,fun e _ hf=> ?_,fun hn nt t ht'=> ?_⟩
 ·rw[hat i h1 (by omega) h2];exact(q44 (hs.2 i h1 h1) (ht.2 i (by omega) (by omega)) (hz i h1 (by omega))).1
 ·have h0:i<s.stack.length:=by omega
  have h3:i<st.length:=by omega
  rw[hat i h0 h3 h1];exact(q44 (hs.2 i h0 h0) (ht.2 i h3 h3) (hz i h0 h3)).2.2 _ ((g1 h).2 i h0 h2) (g2.2 i h3 h2)
 ·refine Wl hlen fun i h1 h2=> ?_;have h3:i<st.length:=by omega
  rw[hat i h2 h3 h1];unfold jg;rw[Xb (hg0 e i h2 h3)]
 ·obtain⟨i,h1,h2,hn⟩:=hg1 e;have h3:i<(qI sup s.stack st st.length).length:=by omega
  exact hn (q3u (hup.2 i h2 h3) (hf.2 i h3 h1))
 ·obtain⟨i,hi,rfl⟩:=Wi ht';have h0:i<s.stack.length:=by omega
  have h3:i<st.length:=by omega
  rw[hat i h0 h3 hi];exact qjb (hn h _ (Xd _)) (nt _ (Xd _))
def Yn(n:Nat)(t:Int×Int):Nat:=if t.1=4 then max n 1 else if t.1=3 then t.2.toNat else 0
theorem qqz{sup:List Int}{a:Int×Int}(h:zw sup a.1 a.2 a.1 a.2=true):Yn sup.length a≤max sup.length 1:=by
 unfold Yn;by_cases h4:a.1=4
 ·rw[Xb h4];exact zn _
 ·rw[Xa h4];by_cases h3:a.1=3
  ·rw[Xb h3];have:=QT h h3;omega
  ·rw[Xa h3];exact Xl _
theorem qig{sup:List Int}{a b:Int×Int}(h:zw sup a.1 a.2 b.1 b.2=true)(hb:zw sup b.1 b.2 b.1 b.2=true):Yn sup.length b≤Yn sup.length a∧(¬zw sup b.1 b.2 a.1 a.2=true→Yn sup.length b<Yn sup.length a):=by
 have ht:=QT hb;obtain⟨a1,a2⟩:=a;obtain⟨b1,b2⟩:=b;dsimp only at*
 unfold q0q at ht;unfold Yn;dsimp only;have h':=h;rw[vv]at h';rcases h' with⟨rfl,g⟩|⟨rfl,rfl,g⟩|⟨g,rfl,rfl⟩
 ·rw[Xb rfl];rcases g with rfl|rfl|rfl
  ·refine⟨?_,fun _=> ?_⟩
   ·rw[Xa (by decide),Xa (by decide)];omega
   ·rw[Xa (by decide),Xa (by decide)];omega
  ·have:=ht rfl;rw[Xa (by decide),Xb rfl];omega
  ·refine⟨by rw[Xb rfl];exact zn _,fun q=>absurd ((vv ..).mpr (.inl ⟨rfl,.inr (.inr rfl)⟩)) q⟩
 ·have hr:=kj g;rw[Xa (by decide),Xb rfl,Xa (by decide),Xb rfl];refine⟨by omega,fun q=> ?_⟩;have hne:¬b2=a2:=fun e=>q (by subst e;exact hb);omega
 ·exact⟨zn _,fun q=>absurd h q⟩
def Jd(n:Nat):List (Int×Int)→Nat
 | []=>0
 |t::ts=>Yn n t+Jd n ts
theorem q4z{sup:List Int}{a b:Int×Int}{s t:List (Int×Int)}:zF sup (a::s) (b::t)↔zw sup a.1 a.2 b.1 b.2=true∧zF sup s t:=by
 constructor
 ·intro h;refine⟨h.2 0 (Nat.succ_pos _) (Nat.succ_pos _),by simpa using h.1,fun i h1 h2=>h.2 (i+1) (Nat.succ_lt_succ h1) (Nat.succ_lt_succ h2)⟩
 ·rintro⟨h0,h⟩;refine⟨by rw[XL,XL,h.1],fun i h1 h2=> ?_⟩
  match i,h1,h2 with
  |0,_,_=>exact h0
  |i+1,h1,h2=>exact h.2 i (by simpa using h1) (by simpa using h2)
theorem qck{sup:List Int}:∀{s:List (Int×Int)},zF sup s s→Jd sup.length s≤s.length*max sup.length 1
 | [],_=>by simp[Jd]
 |t::ts,h=>by
  rw[q4z]at h;have h1:=qqz h.1;have h2:=qck h.2;unfold Jd;rw[XL,Nat.succ_mul];omega
theorem q8y{sup:List Int}:∀{s J:List (Int×Int)},zF sup s J→zF sup J J→Jd sup.length J≤Jd sup.length s∧(¬zF sup J s→Jd sup.length J<Jd sup.length s)
 | [],[],_,_=>⟨zn _,fun h=>absurd (q2l sup) h⟩
 | [],_::_,h,_=>by have:=h.1;simp at this
 |_::_,[],h,_=>by have:=h.1;simp at this
 |a::s,b::t,h,g=>by
  rw[q4z]at h g;obtain⟨a1,a2⟩:=qig h.1 g.1;obtain⟨b1,b2⟩:=q8y h.2 g.2;unfold Jd;refine⟨by omega,fun q=> ?_⟩;rw[q4z]at q;by_cases e:zw sup b.1 b.2 a.1 a.2=true
  ·have:=b2 (fun f=>q ⟨e,f⟩);omega
  ·have:=a2 e;omega
def jy(n:Nat)(s:zm):Nat:=if s.seen then Jd n s.stack+max n 1*(8 - s.stack.length)else 8*max n 1+1
def qg(n:Nat):List zm→Nat
 | []=>0
 |s::S=>jy n s+qg n S
theorem qap{n:Nat}{x:zm}:∀{S:List zm} {i:Nat} (h:i<S.length),jy n x<jy n S[i]→qg n (S.set i x)<qg n S
 | [],i,h,_=>by simp at h
 |s::S,0,h,g=>by
  show jy n x+qg n S<jy n s+qg n S;have g':jy n x<jy n s:=g;omega
 |s::S,i+1,h,g=>by
  show jy n s+qg n (S.set i x)<jy n s+qg n S;have:=qap (S:=S) (i:=i) (by simpa using h) g;omega
theorem qp8{sup:List Int}{s:zm}{st J:List (Int×Int)}(h:vL sup s st J true)(hJ:J.length≤8):jy sup.length ⟨true,J⟩<jy sup.length s:=by
 have hself:zF sup J J:=h.least J h.old h.up;unfold jy;rw[Xb rfl];dsimp only;by_cases g:s.seen=true
 ·rw[Xb g];have h1:=(q8y (h.old g) hself).2 (h.more rfl g);have h2:=(h.old g).1;rw[h2];omega
 ·rw[Xa g];have h1:=qck hself;have h2:J.length*max sup.length 1+max sup.length 1*(8 - J.length)=8*max sup.length 1:=by
   rw[Nat.mul_comm J.length,←Nat.mul_add,Nat.mul_comm 8];congr 1;omega
  omega
theorem qe0{m:za}{S:List zm}{af:List (Int×Int)}{n:Int}:onB m S af n=true↔(zr S n).seen=true∧zF (zt m.classes) af (zr S n).stack:=by
 unfold onB;rw[Xv,q3s]
theorem Vm{m:za}{f pc:Int}{S:List zm}:ve m f S pc=true↔((zr S pc).seen=true→(zD m f pc (zr S pc).stack).err=0∧∀n ∈(zD m f pc (zr S pc).stack).next,(zr S n).seen=true∧zF (zt m.classes) (zD m f pc (zr S pc).stack).after (zr S n).stack):=by
 unfold ve goB;cases h:(zr S pc).seen
 ·simp
 ·rw[Bool.not_true,Bool.false_or,Xv,Xr,Xy];constructor
  ·intro g _;exact⟨g.1,fun n hn=>qe0.mp (g.2 n hn)⟩
  ·intro g;obtain⟨g1,g2⟩:=g rfl;exact⟨g1,fun n hn=>qe0.mpr (g2 n hn)⟩
theorem q1l{m:za}{f:Int}{R:List zm}:jx m f R=true↔(0<R.length∧R.length=(zu m f).code.length∧(zr R 0).seen=true∧(zr R 0).stack=[])∧∀pc:Nat,pc<R.length→ve m f R (pc:Int)=true:=by
 unfold jx q2v;rw[Xv,YE];simp only[Xv,Xr,List.length_eq_zero_iff]
structure vA(m:za)(f:Int)(S:List zm):Prop where
 len:S.length=(zu m f).code.length
 first:(zr S 0).seen=true∧(zr S 0).stack=[]
 self:∀s ∈S,zF (zt m.classes) s.stack s.stack
 small:∀s ∈S,s.stack.length≤8
 low:∀R,jx m f R=true→∀i:Nat,i<S.length→(zr S i).seen=true→(zr R i).seen=true∧zF (zt m.classes) (zr S i).stack (zr R i).stack
theorem QV{S:List zm}{i:Nat}(hi:i<S.length):zr S (i:Int) ∈S:=by
 rw[Qw hi];exact Xd hi
theorem vA.right{m:za}{f:Int}{S R:List zm}(hm:zK m)(h:vA m f S)(hR:jx m f R=true){pc:Nat}(hp:pc<S.length)(hs:(zr S pc).seen=true):
  (zD m f pc (zr S pc).stack).err=0∧∀n ∈(zD m f pc (zr S pc).stack).next,(zr R n).seen=true∧zF (zt m.classes) (zD m f pc (zr S pc).stack).after (zr R n).stack:=by
 obtain⟨h1,h2⟩:=h.low R hR pc hp hs;obtain⟨⟨_,hl,_⟩,hall⟩:=q1l.mp hR;have hpR:pc<R.length:=by rw[hl,←h.len];exact hp
 obtain⟨g1,g2⟩:=Vm.mp (hall pc hpR) h1;obtain⟨e1,e2,e3⟩:=q3g hm h2 g1;exact⟨e1,fun n hn=>by
  rw[e2]at hn;obtain⟨a1,a2⟩:=g2 n hn;exact⟨a1,e3.trans' a2⟩⟩
theorem vA.none_err{m:za}{f:Int}{S:List zm}(hm:zK m)(h:vA m f S){pc:Nat}(hp:pc<S.length)(hs:(zr S pc).seen=true)(he:¬(zD m f pc (zr S pc).stack).err=0):∀R,jx m f R=false:=fun R=>by
 rw[X9];intro hR;exact he (h.right hm hR hp hs).1
theorem vA.none_come{m:za}{f:Int}{S:List zm}(hm:zK m)(h:vA m f S){pc q:Nat}(hp:pc<S.length)(hq:q<S.length)(hs:(zr S pc).seen=true)(hn:(q:Int) ∈(zD m f pc (zr S pc).stack).next)
  (hb:Yd (zt m.classes) (zr S q) (zD m f pc (zr S pc).stack).after):∀R,jx m f R=false:=fun R=>by
 rw[X9];intro hR;have h2:=(h.low R hR q hq hb.1).2;exact hb.2 _ h2 ((h.right hm hR hp hs).2 _ hn).2
theorem vA.put{m:za}{f:Int}{S:List zm}(hm:zK m)(h:vA m f S){pc q:Nat}{J:List (Int×Int)}{gr:Bool}(hp:pc<S.length)(hq:q<S.length)(hs:(zr S pc).seen=true)(hn:(q:Int) ∈(zD m f pc (zr S pc).stack).next)
  (hc:vL (zt m.classes) (zr S q) (zD m f pc (zr S pc).stack).after J gr) (h8:(zD m f pc (zr S pc).stack).after.length≤8):vA m f (S.set q ⟨true,J⟩):=by
 have hset:∀i:Nat,zr (S.set q ⟨true,J⟩) (i:Int)=if i=q then⟨true,J⟩else zr S (i:Int):=fun i=>YG hq
 have hJ:zF (zt m.classes) J J:=hc.least J hc.old hc.up;refine⟨by rw[XD];exact h.len,?_,fun s hs'=> ?_,fun s hs'=> ?_,fun R hR i hi hsi=> ?_⟩
 ·have h0:=hset 0;by_cases e:0=q
  ·rw[Xb e]at h0;have hz:=hc.old (by rw[←e];exact h.first.1);rw[←e]at hz;have hl:=hz.1;have hf:(zr S ((0:Nat):Int)).stack=[]:=h.first.2;rw[hf]at hl;have hJ0:J=[]:=XZ hl.symm;have e2:zr (S.set q ⟨true,J⟩) 0=⟨true,J⟩:=h0;rw[e2];exact⟨rfl,hJ0⟩
  ·rw[Xa e]at h0;have e2:zr (S.set q ⟨true,J⟩) 0=zr S 0:=h0;rw[e2];exact h.first
 ·rcases Wf hs' with g|g
  ·exact h.self s g
  ·rw[g];exact hJ
 ·rcases Wf hs' with g|g
  ·exact h.small s g
  ·rw[g];show J.length≤8;rw[←hc.up.1];exact h8
 ·rw[XD]at hi;rw[hset]at hsi⊢
  by_cases e:i=q
  ·rw[Xb e];subst e;obtain⟨a1,a2⟩:=(h.right hm hR hp hs).2 _ hn;exact⟨a1,hc.least _ (fun g=>(h.low R hR i hi g).2) a2⟩
  ·rw[Xa e]at hsi⊢
   exact h.low R hR i hi hsi
theorem qnd{m:za}{f:Int}{S:List zm}{p q:Nat}{J st:List (Int×Int)}{gr:Bool}(hq:q<S.length)(hpq:p≠q)(h:ve m f S (p:Int)=true)(hN:∀n ∈(zD m f p (zr S p).stack).next,0≤n)
  (hc:vL (zt m.classes) (zr S q) st J gr):ve m f (S.set q ⟨true,J⟩) (p:Int)=true:=by
 have hset:∀i:Nat,zr (S.set q ⟨true,J⟩) (i:Int)=if i=q then⟨true,J⟩else zr S (i:Int):=fun i=>YG hq
 rw[Vm]at h⊢
 rw[hset,Xa hpq];intro hs;obtain⟨h1,h2⟩:=h hs;refine⟨h1,fun n hn=> ?_⟩;obtain⟨g1,g2⟩:=h2 n hn;obtain⟨k,rfl⟩:=Xm (hN n hn);rw[hset];by_cases e:k=q
 ·rw[Xb e];subst e;exact⟨rfl,g2.trans' (hc.old g1)⟩
 ·rw[Xa e];exact⟨g1,g2⟩
theorem vA.done{m:za}{f:Int}{S:List zm}(h:vA m f S)(h0:0<S.length)(hd:∀pc:Nat,pc<S.length→ve m f S (pc:Int)=true):jx m f S=true:=q1l.mpr ⟨⟨h0,h.len,h.first⟩,hd⟩
theorem qp7{sup:List Int}{S:List zm}{q:Nat}{st J:List (Int×Int)}(hq:q<S.length)(hc:vL sup (zr S q) st J false):S.set q ⟨true,J⟩=S:=by
 obtain⟨h1,h2⟩:=hc.same rfl;have e:(⟨true,J⟩:zm)=S[q]:=by
  rw[←Qw hq];have:zr S (q:Int)=⟨(zr S (q:Int)).seen,(zr S (q:Int)).stack⟩:=rfl;rw[this,h1,h2]
 rw[e];exact List.set_getElem_self hq
theorem q53{m:za}{S:List zm}{q:Nat}{st J:List (Int×Int)}(hq:q<S.length)(hc:vL (zt m.classes) (zr S q) st J true)(h8:st.length≤8):qg (zt m.classes).length (S.set q ⟨true,J⟩)<qg (zt m.classes).length S:=
 qap hq (by
  rw[←Qw hq];exact qp8 hc (by rw[←hc.up.1];exact h8))
def q10(sup:List Int)(S R:List zm):Bool:=decide (S.length=R.length)&& (List.range S.length).all fun i=> !(zr S (i:Int)).seen||((zr R (i:Int)).seen&& VC sup (zr S (i:Int)).stack (zr R (i:Int)).stack)
theorem q4t{sup:List Int}{S R:List zm}:q10 sup S R=true↔S.length=R.length∧∀i:Nat,i<S.length→(zr S i).seen=true→(zr R i).seen=true∧zF sup (zr S i).stack (zr R i).stack:=by
 unfold q10;rw[Xv,Xr,YE];constructor
 ·rintro⟨h1,h2⟩;refine⟨h1,fun i hi hs=> ?_⟩;have:=h2 i hi;rw[hs,Bool.not_true,Bool.false_or,Xv,q3s]at this;exact this
 ·rintro⟨h1,h2⟩;refine⟨h1,fun i hi=> ?_⟩;cases hs:(zr S (i:Int)).seen
  ·rfl
  ·obtain⟨g1,g2⟩:=h2 i hi hs;rw[g1,q3s.mpr g2];rfl
theorem vA.over{m:za}{f:Int}{S R:List zm}(h:vA m f S)(hR:jx m f R=true):q10 (zt m.classes) S R=true:=by
 rw[q4t];refine⟨?_,fun i hi hs=>h.low R hR i hi hs⟩;rw[h.len,(q1l.mp hR).1.2.1]
def overB(sup:List Int)(a b:List (List zm)):Bool:=decide (a.length=b.length)&& (List.range a.length).all fun f=>q10 sup (a[f]?.getD []) (b[f]?.getD [])
theorem q8x{m:za}{a:List (List zm)}:Qz m a=true↔a.length=m.methods.length∧∀f,f<a.length→jx m (f:Int) (a[f]?.getD [])=true:=by
 unfold Qz;rw[Xv,Xr,YE]
structure qen(m:za)(a:List (List zm)):Prop where
 right:Qz m a=true
 least:∀b,Qz m b=true→overB (zt m.classes) a b=true
 small:∀S ∈a,∀s ∈S,s.stack.length≤8
theorem qen.self{m:za}{a:List (List zm)}(h:qen m a):overB (zt m.classes) a a=true:=h.least a h.right
structure kA(m:za)(f:Int)(S:List zm):Prop where
 right:jx m f S=true
 least:∀R,jx m f R=true→q10 (zt m.classes) S R=true
 small:∀s ∈S,s.stack.length≤8
 flat:∀s ∈S,jQ s.stack∧(s.seen=false→s.stack=[])
theorem q7t{m:za}{f:Nat}(hf:f<m.methods.length)(h:∀R,jx m (f:Int) R=false):∀a,Qz m a=false:=fun a=>by
 rw[X9];intro ha;obtain⟨h1,h2⟩:=q8x.mp ha;have:=h2 f (by omega);rw[h]at this;cases this
theorem qb5{m:za}{f:Int}{n:Nat}(hn:(zu m f).code.length=n+1):vA m f (⟨true,[]⟩::List.replicate n (⟨false,[]⟩:zm)):=by
 refine⟨by rw[hn];simp,⟨rfl,rfl⟩,fun s hs=> ?_,fun s hs=> ?_,fun R hR i hi hs=> ?_⟩
 ·rcases Xz.mp hs with rfl|hs
  ·exact q2l _
  ·rw[(Wm.mp hs).2];exact q2l _
 ·rcases Xz.mp hs with rfl|hs
  ·exact Xl _
  ·rw[(Wm.mp hs).2];exact Xl _
 ·match i,hi,hs with
  |0,_,_=>
   obtain⟨⟨_,_,h1,h2⟩,_⟩:=q1l.mp hR;refine⟨h1,?_⟩;have e:(zr R ((0:Nat):Int)).stack=[]:=h2;rw[e];exact q2l _
  |i+1,hi,hs=>
   rw[Qw hi]at hs;have:(List.replicate n (⟨false,[]⟩:zm))[i]'(by simpa using hi)=⟨false,[]⟩:=List.getElem_replicate ..;have hs:((List.replicate n (⟨false,[]⟩:zm))[i]'(by simpa using hi)).seen=true:=hs;rw[this]at hs;cases hs
theorem kI{c:Prop}[Decidable c]{A B:List (Int×Int)}(hA:c→jQ A)(hB:¬c→jQ B):jQ (if c then A else B):=by
 by_cases g:c
 ·rw[Xb g];exact hA g
 ·rw[Xa g];exact hB g
theorem Zl{t:Int×Int}(h:vU t):jQ [t]:=fun u hu=>by rw[XG.mp hu];exact h
theorem q07{t:Int×Int}{n:Nat}(h:qA t.1 t.2 n=true):vU t:=fun e=>by
 unfold qA at h;rw[Xr]at h;omega
theorem qcj{m:za}{y:zf}(hy:q6m m y):jQ (qR y):=by
 unfold qR;refine kI (fun _ t ht=>absurd ht (by simp)) (fun h5=>Zl ?_);rcases hy.rt with h|h
 ·rw[h]at h5;exact absurd rfl h5
 ·exact q07 h
theorem qof{m:za}{x:zf}{f:Nat}{op a b:Int}(hm:zK m)(hg:m.methods[f]? =some x)(hi:qp op a b=true)(hn:zC m x op a b=true):jQ (zy m x op a b):=by
 obtain⟨o0,o1,a0,a1,b0,b1⟩:=Qn hi;have hx:=hm.method (Xo hg);have s1:vU (1,0):=fun e=>rfl;have s2:vU (2,0):=fun e=>rfl;have s4:vU (4,0):=fun e=>rfl;have s3:vU (3,a):=fun e=>by cases e
 unfold zy;refine kI (fun _=>Zl s1) (fun _=> ?_);refine kI (fun _=>Zl s4) (fun _=> ?_);refine kI (fun h=>Zl ?_) (fun _=> ?_)
 ·have hl:=q4u (.inl h) hn;unfold qm;rw[Xb a0];have hmem:=Jw (l:=x.args++x.locals) a0 (by rw[Xt];omega);rcases Xs.mp hmem with q|q
  ·exact q07 (hx.at_ _ q)
  ·exact q07 (hx.lt _ q)
 refine kI (fun _=>Zl s1) (fun _=> ?_);refine kI (fun _=>Zl s1) (fun _=> ?_);refine kI (fun h=>Zl s3) (fun _=> ?_);refine kI (fun _=>Zl s2) (fun _=> ?_);refine kI (fun _=>Zl s1) (fun _=> ?_);refine kI (fun _=>Zl s1) (fun _=> ?_);refine kI (fun h=>Zl (q07 (q3q hm (Jw b0 (Yw (.inl h) hn).2)))) (fun _=> ?_);refine kI (fun h=>Zl (q07 (hm.st _ (Jw a0 (Yt (.inl h) hn))))) (fun _=> ?_);refine kI (fun h=>Zl s3) (fun _=> ?_);refine kI (fun h=> ?_) (fun _=> ?_)
 ·subst h;have h1:=YA hn;have h2:a.toNat<m.methods.length:=by omega
  refine qcj (hm.method ?_);unfold zu;rw[Xc h2];exact Xd h2
 refine kI (fun h=> ?_) (fun _=> ?_)
 ·subst h;obtain⟨_,k,y,hk,hy,_⟩:=Yz hm a0 b0 hn;refine qcj (hm.method ?_);unfold zu kB;rw[hk,XY,Xe,hy];exact Xo hy
 refine kI (fun _=>Zl s1) (fun _=> ?_);exact fun t ht=>absurd ht (by simp)
theorem qab{m:za}{f pc:Int}{st:List (Int×Int)}(hm:zK m)(h:jQ st)(e:(zD m f pc st).err=0):jQ (zD m f pc st).after:=by
 unfold zD at e⊢
 by_cases g:0≤f∧f<m.methods.length∧0≤pc∧pc<(zu m f).code.length
 ·rw[Xb g]at e;rw[Xb g];cases hi:(zu m f).code[pc.toNat]? with
  |none=>rw[hi]at e;exact absurd e (show ¬(1:Int)=0 by decide)
  |some i=>
   rw[hi]at e;have hf:f.toNat<m.methods.length:=by omega
   have hg:m.methods[f.toNat]? =some (zu m f):=by unfold zu;rw[Xc hf];rfl
   have hx:=hm.method (Xo hg);have him:=Xo hi;have hgv:=qof hm hg (hx.fits.ct _ him) (hx.co _ him);have e:(qx m (zu m f) pc i.1 i.2.1 i.2.2 st).err=0:=e;show jQ (qx m (zu m f) pc i.1 i.2.1 i.2.2 st).after;have e4:¬(qw 4).err=0:=by unfold qw;decide
   unfold qx at e⊢
   split at e
   ·exact absurd e e4
   ·rename_i h1;rw[Xa h1];split at e
    ·exact absurd e e4
    ·rename_i h2;rw[Xa h2];split at e
     ·rename_i h3;rw[Xb h3];intro t ht;rcases Xs.mp ht with q|q
      ·exact h t (List.mem_of_mem_take q)
      ·unfold vM at q;by_cases h6:i.1=6∧st≠ []
       ·rw[Xb h6]at q;have hl:st.getLast?.getD (0,0) ∈st:=by
         rw[List.getLast?_eq_some_getLast h6.2];exact List.getLast_mem h6.2
        have ht:t=st.getLast?.getD (0,0):=by simpa using q
        rw[ht];exact h _ hl
       ·rw[Xa h6]at q;exact hgv t q
     ·exact absurd e e4
 ·rw[Xa g]at e;exact absurd e (show ¬(1:Int)=0 by decide)
theorem qc5{sup:List Int}{s t:Int×Int}(h:zw sup s.1 s.2 t.1 t.2=true)(g:zw sup t.1 t.2 s.1 s.2=true)(hs:vU s)(ht:vU t):s=t:=by
 obtain⟨s1,s2⟩:=s;obtain⟨t1,t2⟩:=t;rw[vv]at h g;dsimp only at h g;have a1:s1=4→s2=0:=hs;have a2:t1=4→t2=0:=ht;rcases h with⟨h1,h2⟩|⟨h1,h2,h3⟩|⟨h1,h2,h3⟩
 ·rcases g with⟨g1,_⟩|⟨g1,g2,_⟩|⟨g1,g2,_⟩
  ·rw[h1,g1,a1 h1,a2 g1]
  ·omega
  ·omega
 ·rcases g with⟨g1,_⟩|⟨_,_,g3⟩|⟨g1,g2,_⟩
  ·omega
  ·rw[h1,h2,qlm h3 g3]
  ·omega
 ·rw[h2,h3]
def jO(sup:List Int)(s t:Int×Int):Int×Int:=qe sup s.1 s.2 t.1 t.2
theorem qje{sup:List Int}{s t:Int×Int}(hs:zw sup s.1 s.2 s.1 s.2=true)(ht:zw sup t.1 t.2 t.1 t.2=true)(h:(jO sup s t).1=0):
  ∀u:Int×Int,zw sup s.1 s.2 u.1 u.2=true→zw sup t.1 t.2 u.1 u.2=true→False:=fun u=>by
 rcases q19 (QT hs) (QT ht)with⟨_,q⟩|⟨q,_⟩
 ·exact q u.1 u.2
 ·exact absurd h q
theorem q45{sup:List Int}{s t:Int×Int}(hs:zw sup s.1 s.2 s.1 s.2=true)(ht:zw sup t.1 t.2 t.1 t.2=true)(h:¬(jO sup s t).1=0):
  zw sup s.1 s.2 (jO sup s t).1 (jO sup s t).2=true∧zw sup t.1 t.2 (jO sup s t).1 (jO sup s t).2=true∧
  ∀u:Int×Int,zw sup s.1 s.2 u.1 u.2=true→zw sup t.1 t.2 u.1 u.2=true→zw sup (jO sup s t).1 (jO sup s t).2 u.1 u.2=true:=by
 rcases q19 (QT hs) (QT ht)with⟨q,_⟩|⟨_,q1,q2,q3⟩
 ·exact absurd q h
 ·exact⟨q1,q2,fun u=>q3 u.1 u.2⟩
theorem qjd{sup:List Int}{s t:Int×Int}(hs:vU s)(ht:vU t):vU (jO sup s t):=q9d hs ht
def Zt(sup:List Int)(ss ts:List (Int×Int)):List (Int×Int):=(ss.zip ts).map fun p=>jO sup p.1 p.2
theorem qjf{sup:List Int}{ss ts:List (Int×Int)}{k:Nat}(h1:k<ss.length)(h2:k<ts.length):((ss.zip ts).take (k+1)).map (fun p=>jO sup p.1 p.2)=((ss.zip ts).take k).map (fun p=>jO sup p.1 p.2)++[jO sup ss[k] ts[k]]:=by
 have hz:k<(ss.zip ts).length:=by rw[Wh];omega
 rw[XA,Xc hz,XX,List.getElem_zip];rfl
theorem qkq{sup:List Int}{s:zm}{st:List (Int×Int)}{i:Nat}(h:s.seen=true)(h1:i<s.stack.length)(h2:i<st.length)(hs:zF sup s.stack s.stack)(ht:zF sup st st)(hz:(jO sup s.stack[i] st[i]).1=0):Yd sup s st:=
 ⟨h,fun U g1 g2=>qje (hs.2 i h1 h1) (ht.2 i h2 h2) hz U[i]! (by
  have hU:i<U.length:=by rw[←g1.1];exact h1
  rw[getElem!_pos U i hU];exact g1.2 i h1 hU) (by
  have hU:i<U.length:=by rw[←g1.1];exact h1
  rw[getElem!_pos U i hU];exact g2.2 i h2 hU)⟩
theorem qpa{sup:List Int}{s:zm}{st:List (Int×Int)}(h:s.seen=true)(hl:s.stack.length=st.length)(hs:zF sup s.stack s.stack)(ht:zF sup st st)(ns:jQ s.stack)(nt:jQ st)
  (hz:∀t ∈Zt sup s.stack st,¬t.1=0):(∀gr:Bool,(gr=false→Zt sup s.stack st=s.stack)→(gr=true→¬Zt sup s.stack st=s.stack)→vL sup s st (Zt sup s.stack st) gr)∧jQ (Zt sup s.stack st):=by
 have hlen:(Zt sup s.stack st).length=s.stack.length:=by unfold Zt;rw[Xi,Wh];omega
 have hat:∀(i:Nat) (h1:i<s.stack.length) (h2:i<st.length) (h3:i<(Zt sup s.stack st).length),(Zt sup s.stack st)[i]=jO sup s.stack[i] st[i]:=fun i h1 h2 h3=>by
  have e:(Zt sup s.stack st)[i]? =some (jO sup s.stack[i] st[i]):=by
   unfold Zt;rw[Xx,Xc (by rw[Wh];omega),List.getElem_zip];rfl
  rw[Xc h3]at e;exact Option.some.inj e
 have hz':∀(i:Nat) (h1:i<s.stack.length) (h2:i<st.length),¬(jO sup s.stack[i] st[i]).1=0:=fun i h1 h2=>by
  rw[←hat i h1 h2 (by omega)];exact hz _ (Xd _)
 have hnull:jQ (Zt sup s.stack st):=fun t ht'=>by
  obtain⟨i,hi,rfl⟩:=Wi ht';rw[hat i (by omega) (by omega) hi];exact qjd (ns _ (Xd _)) (nt _ (Xd _))
 have hold:zF sup s.stack (Zt sup s.stack st):=⟨hlen.symm,fun i h1 h2=>by
  rw[hat i h1 (by omega) h2];exact(q45 (hs.2 i h1 h1) (ht.2 i (by omega) (by omega)) (hz' i h1 (by omega))).1⟩
 refine⟨fun gr g0 g1=>⟨⟨by rw[hlen,hl],fun i h1 h2=> ?_⟩,fun _=>hold,fun U a1 a2=>⟨by rw[hlen];exact(a1 h).1,fun i h1 h2=> ?_⟩,fun e=>⟨h,g0 e⟩,fun e _ hf=>g1 e ?_,fun _ _=>hnull⟩,hnull⟩
 ·have h0:i<s.stack.length:=by omega
  rw[hat i h0 h1 h2];exact(q45 (hs.2 i h0 h0) (ht.2 i h1 h1) (hz' i h0 h1)).2.1
 ·have h0:i<s.stack.length:=by omega
  have h3:i<st.length:=by omega
  rw[hat i h0 h3 h1];exact(q45 (hs.2 i h0 h0) (ht.2 i h3 h3) (hz' i h0 h3)).2.2 _ ((a1 h).2 i h0 h2) (a2.2 i h3 h2)
 ·refine Wl hlen fun i h1 h2=> ?_;exact qc5 (hf.2 i h1 h2) (hold.2 i h2 h1) (hnull _ (Xd _)) (ns _ (Xd _))
def q2r(m:za)(f:Int)(L:List (Int×Int))(NL:List Int):Prop:=∀R,jx m f R=true→∀n ∈NL,(zr R n).seen=true∧zF (zt m.classes) L (zr R n).stack
theorem vA.putR{m:za}{f:Int}{S:List zm}(h:vA m f S){q:Nat}{L J:List (Int×Int)}{NL:List Int}{gr:Bool}(hq:q<S.length)(hr:q2r m f L NL)(hn:(q:Int) ∈NL)
  (hc:vL (zt m.classes) (zr S q) L J gr) (h8:L.length≤8):vA m f (S.set q ⟨true,J⟩):=by
 have hset:∀i:Nat,zr (S.set q ⟨true,J⟩) (i:Int)=if i=q then⟨true,J⟩else zr S (i:Int):=fun i=>YG hq
 have hJ:zF (zt m.classes) J J:=hc.least J hc.old hc.up;refine⟨by rw[XD];exact h.len,?_,fun s hs'=> ?_,fun s hs'=> ?_,fun R hR i hi hsi=> ?_⟩
 ·have h0:=hset 0;by_cases e:0=q
  ·rw[Xb e]at h0;have hz:=hc.old (by rw[←e];exact h.first.1);rw[←e]at hz;have hl:=hz.1;have hf:(zr S ((0:Nat):Int)).stack=[]:=h.first.2;rw[hf]at hl;have hJ0:J=[]:=XZ hl.symm;have e2:zr (S.set q ⟨true,J⟩) 0=⟨true,J⟩:=h0;rw[e2];exact⟨rfl,hJ0⟩
  ·rw[Xa e]at h0;have e2:zr (S.set q ⟨true,J⟩) 0=zr S 0:=h0;rw[e2];exact h.first
 ·rcases Wf hs' with g|g
  ·exact h.self s g
  ·rw[g];exact hJ
 ·rcases Wf hs' with g|g
  ·exact h.small s g
  ·rw[g];show J.length≤8;rw[←hc.up.1];exact h8
 ·rw[XD]at hi;rw[hset]at hsi⊢
  by_cases e:i=q
  ·rw[Xb e];subst e;obtain⟨a1,a2⟩:=hr R hR _ hn;exact⟨a1,hc.least _ (fun g=>(h.low R hR i hi g).2) a2⟩
  ·rw[Xa e]at hsi⊢
   exact h.low R hR i hi hsi
theorem vA.noneR{m:za}{f:Int}{S:List zm}(h:vA m f S){q:Nat}{L:List (Int×Int)}{NL:List Int}(hq:q<S.length)(hr:q2r m f L NL)(hn:(q:Int) ∈NL)
  (hb:Yd (zt m.classes) (zr S q) L):∀R,jx m f R=false:=fun R=>by
 rw[X9];intro hR;exact hb.2 _ (h.low R hR q hq hb.1).2 (hr R hR _ hn).2
structure Zc(m:za)(f:Int)(S:List zm):Prop where
 grow:YW m f S
 low:vA m f S
 nul:∀s ∈S,jQ s.stack
 dry:∀s ∈S,s.seen=false→s.stack=[]
 lens:∀k,(∃t ∈S,t.seen=true∧t.stack.length=k+1)→∃t ∈S,t.seen=true∧t.stack.length=k
def q0e(m:za)(n:Nat):Nat:=qg (zt m.classes).length (⟨true,[]⟩::List.replicate n (⟨false,[]⟩:zm))
theorem quc{c:Prop}[Decidable c]{A B:List (Int×Int)}(hA:A.length≤1)(hB:B.length≤1):(if c then A else B).length≤1:=by
 by_cases g:c
 ·rw[Xb g];exact hA
 ·rw[Xa g];exact hB
theorem qgl(x:zf):(qR x).length≤1:=by
 unfold qR;split
 ·exact Xl _
 ·exact zn _
theorem qjt(m:za)(x:zf)(op a b:Int):(zy m x op a b).length≤1:=by
 unfold zy
 repeat' apply quc
 all_goals first|exact qgl _|exact Xl _|exact zn _
theorem qod(m:za)(x:zf)(op a b:Int)(st:List (Int×Int)):(vM m x op a b st).length≤(takes m x op a b st).length+1:=by
 unfold vM takes;by_cases h:op=6∧st≠ []
 ·rw[Xb h,Xb h];exact zn _
 ·rw[Xa h,Xa h];have:=qjt m x op a b;omega
def vS(S:List zm)(k:Nat):Prop:=∃t ∈S,t.seen=true∧t.stack.length=k
def Va(S:List zm):Prop:=∀k,vS S (k+1)→vS S k
theorem Va.down{S:List zm}(h:Va S){k:Nat}(hk:vS S k):∀j,j≤k→vS S j:=by
 induction k with
 |zero=>
  intro j hj;have:j=0:=by omega
  subst this;exact hk
 |succ k ih=>
  intro j hj;rcases Nat.eq_or_lt_of_le hj with e|q
  ·subst e;exact hk
  ·exact ih (h k hk) j (by omega)
theorem vS.set{S:List zm}{q k:Nat}{x:zm}(hq:q<S.length)(hx:x.seen=true)(he:S[q].seen=true→x.stack.length=S[q].stack.length)(h:vS S k):vS (S.set q x) k:=by
 obtain⟨t,ht,hs,hl⟩:=h;obtain⟨i,hi,e⟩:=Wi ht;by_cases h1:i=q
 ·subst h1;exact⟨x,List.mem_iff_getElem.mpr ⟨i,by rw[XD];exact hi,by rw[List.getElem_set_self]⟩,hx,by rw[he (by rw[e];exact hs),e];exact hl⟩
 ·exact⟨t,List.mem_iff_getElem.mpr ⟨i,by rw[XD];exact hi,by rw[List.getElem_set_ne (fun z=>h1 z.symm)];exact e⟩,hs,hl⟩
theorem Va.set{S:List zm}{q j:Nat}{x:zm}(h:Va S)(hq:q<S.length)(hx:x.seen=true)(he:S[q].seen=true→x.stack.length=S[q].stack.length)(hn:S[q].seen=false→vS S j∧x.stack.length≤j+1):Va (S.set q x):=fun k hk=>by
 refine vS.set hq hx he ?_;obtain⟨t,ht,hs,hl⟩:=hk;rcases Wf ht with g|g
 ·exact h k ⟨t,g,hs,hl⟩
 ·subst g;cases hsq:S[q].seen with
  |true=>exact h k ⟨S[q],Xd hq,hsq,by rw[←he hsq];exact hl⟩
  |false=>
   obtain⟨h1,h2⟩:=hn hsq;exact h.down h1 k (by omega)
theorem q1d{n:Nat}{x:zm}:∀{S:List zm},x ∈S→qg n S=jy n x+qg n (S.erase x)
 | [],h=>by cases h
 |s::S,h=>by
  by_cases e:s=x
  ·subst e;rw[List.erase_cons_head];rfl
  ·rw[List.erase_cons_tail (by simpa using e)];have h':x ∈S:=by
    rcases Xz.mp h with g|g
    ·exact absurd g.symm e
    ·exact g
   have:=q1d (n:=n) h';show jy n s+qg n S=jy n x+(jy n s+qg n (S.erase x))
   omega
theorem qaq{n c:Nat}:∀{S:List zm},(∀s ∈S,c≤jy n s)→S.length*c≤qg n S
 | [],_=>by simp
 |s::S,h=>by
  have h1:=h s (XE ..);have h2:=qaq (n:=n) (c:=c) (S:=S) (fun t ht=>h t (XI _ ht));show(S.length+1)*c≤jy n s+qg n S;rw[Nat.succ_mul];omega
theorem q20{n:Nat}{s:zm}:max n 1*(8 - s.stack.length)≤jy n s:=by
 unfold jy;split
 ·omega
 ·have:max n 1*(8 - s.stack.length)≤max n 1*8:=Nat.mul_le_mul_left _ (by omega);omega
theorem qn7{n k:Nat}:qg n (List.replicate k (⟨false,[]⟩:zm))=k*(8*max n 1+1):=by
 induction k with
 |zero=>simp[qg]
 |succ k ih=>
  have e:jy n ⟨false,[]⟩=8*max n 1+1:=rfl;show jy n ⟨false,[]⟩+qg n (List.replicate k _)=_;rw[ih,e,Nat.add_comm];exact(Nat.succ_mul k _).symm
theorem qi3{m:za}{S:List zm}{n:Nat}(hS:S.length=n+1)(hn:n≤63)(hc:m.classes.length≤8)(h:Va S)(hs:∀s ∈S,s.stack.length≤8):q0e m n<qg (zt m.classes).length S+4000:=by
 have hr:q0e m n=8*max (zt m.classes).length 1+n*(8*max (zt m.classes).length 1+1):=by
  unfold q0e;show jy _ ⟨true,[]⟩+qg _ _=_;rw[qn7];unfold jy;rw[Xb rfl];show(0+max _ 1*(8 - 0))+_=_;omega
 rw[jS]at hr⊢
 obtain⟨K,hK⟩:∃K,max m.classes.length 1=K:=⟨_,rfl⟩
 have hK8:K≤8:=by omega
 rw[hK]at hr;rw[hr];rcases Xj K 8 with k7|k8
 ·have h1:n*(8*K+1)≤63*(8*7+1):=Nat.mul_le_mul hn (by omega);omega
 have hK':K=8:=by omega
 subst hK';rcases Xj n 61 with n0|n0
 ·omega
 by_cases h8:vS S 8
 ·obtain⟨t0,m0,s0,l0⟩:=h.down h8 0 (by omega);obtain⟨t1,m1,s1,l1⟩:=h.down h8 1 (by omega);obtain⟨t2,m2,s2,l2⟩:=h.down h8 2 (by omega);have n01:t1≠t0:=fun e=>by rw[e]at l1;omega
  have n02:t2≠t0:=fun e=>by rw[e]at l2;omega
  have n12:t2≠t1:=fun e=>by rw[e]at l2;omega
  have e0:=q1d (n:=m.classes.length) m0;have e1:=q1d (n:=m.classes.length) ((List.mem_erase_of_ne n01).mpr m1);have e2:=q1d (n:=m.classes.length) ((List.mem_erase_of_ne n12).mpr ((List.mem_erase_of_ne n02).mpr m2));have r0:=q20 (n:=m.classes.length) (s:=t0);have r1:=q20 (n:=m.classes.length) (s:=t1);have r2:=q20 (n:=m.classes.length) (s:=t2);rw[hK,l0]at r0;rw[hK,l1]at r1;rw[hK,l2]at r2;omega
 ·have hlow:∀s ∈S,8≤jy m.classes.length s:=fun s hm=>by
   have h1:=q20 (n:=m.classes.length) (s:=s);cases hse:s.seen with
   |false=>
    unfold jy;rw[hse,Xa (by decide)];omega
   |true=>
    have h7:s.stack.length≠8:=fun e=>h8 ⟨s,hm,hse,e⟩;have:=hs s hm;rw[hK]at h1;omega
  have:=qaq hlow;omega
theorem qm8{m:za}{f pc:Int}{st:List (Int×Int)}(h:(zD m f pc st).err=0):(zD m f pc st).after.length≤st.length+1:=by
 unfold zD at h⊢
 split
 ·rename_i h1;rw[Xb h1]at h;split
  ·rename_i i hi;rw[hi]at h;dsimp only at h;unfold qx at h⊢
   split
   ·rename_i h2;rw[Xb h2]at h;cases h
   ·rename_i h2;rw[Xa h2]at h;split
    ·rename_i h3;rw[Xb h3]at h;cases h
    ·rename_i h3;rw[Xa h3]at h;split
     ·dsimp only;rw[Xt,XU];have h4:=qod m (zu m f) i.1 i.2.1 i.2.2 st;omega
     ·rename_i h4;rw[Xa h4]at h;cases h
  ·rename_i hi;rw[hi]at h;cases h
 ·rename_i h1;rw[Xa h1]at h;cases h
theorem vS.put{S:List zm}{q k:Nat}{sup:List Int}{L J:List (Int×Int)}{gr:Bool}(h:vS S k)(hq:q<S.length)(hc:vL sup (zr S (q:Int)) L J gr):vS (S.set q ⟨true,J⟩) k:=by
 have e:zr S (q:Int)=S[q]:=Qw hq;rw[e]at hc;exact vS.set hq rfl (fun hs=>(hc.old hs).1.symm) h
theorem Zc.start{m:za}{f:Int}{n:Nat}(h:YW m f (⟨true,[]⟩::List.replicate n (⟨false,[]⟩:zm)))(hn:(zu m f).code.length=n+1):Zc m f (⟨true,[]⟩::List.replicate n (⟨false,[]⟩:zm)):=
 ⟨h,qb5 hn,fun s hs=>by
  rcases Xz.mp hs with rfl|hs
  ·exact fun t ht=>absurd ht (by simp)
  ·rw[(Wm.mp hs).2];exact fun t ht=>absurd ht (by simp),fun s hs _=>by
  rcases Xz.mp hs with rfl|hs
  ·rfl
  ·rw[(Wm.mp hs).2],fun k ⟨t,ht,hs,hl⟩=>by
  rcases Xz.mp ht with rfl|ht
  ·simp at hl
  ·rw[(Wm.mp ht).2]at hs;cases hs⟩
theorem Zc.put{m:za}{f:Int}{S:List zm}(h:Zc m f S){p q:Nat}{L J:List (Int×Int)}{NL:List Int}{gr:Bool}(hq:q<S.length)(hp:p<S.length)(hs:(zr S p).seen=true)(hn:(q:Int) ∈YR m f p)(hr:q2r m f L NL)(hm:(q:Int) ∈NL)
  (hc:vL (zt m.classes) (zr S q) L J gr) (h8:L.length≤8) (hz:jQ J) {j:Nat} (hj:vS S j) (hlj:L.length≤j+1):Zc m f (S.set q ⟨true,J⟩):=
 ⟨h.grow.put hq hp hs hn (by rw[←hc.up.1];exact h8),h.low.putR hq hr hm hc h8,fun s hs'=>by
  rcases Wf hs' with g|g
  ·exact h.nul s g
  ·rw[g];exact hz,(fun s hs' hse=>by
   rcases Wf hs' with g|g
   ·exact h.dry s g hse
   ·rw[g]at hse;cases hse),by
  have e:zr S (q:Int)=S[q]:=Qw hq;rw[e]at hc;exact Va.set (S:=S) h.lens hq rfl (fun hs=>(hc.old hs).1.symm) (fun _=>⟨hj,by show J.length≤j+1;rw[←hc.up.1];exact hlj⟩)⟩
theorem Zc.step{m:za}{f:Int}{S:List zm}(hm:zK m)(h:Zc m f S){pc:Nat}{L:List (Int×Int)}{NL:List Int}(hp:pc<S.length)(hs:(zr S pc).seen=true)(e:zD m f pc (zr S pc).stack=⟨L,NL,0⟩):q2r m f L NL∧zF (zt m.classes) L L∧jQ L:=by
 have hself:zF (zt m.classes) (zr S pc).stack (zr S pc).stack:=h.low.self _ (QV hp);have h1:=q3g (f:=f) (pc:=(pc:Int)) hm hself (by rw[e]);have h2:=qab (f:=f) (pc:=(pc:Int)) hm (h.nul _ (QV hp)) (by rw[e]);rw[e]at h1 h2;exact⟨fun R hR n hn=>by
  have:=(h.low.right hm hR hp hs).2 n (by rw[e];exact hn);rw[e]at this;exact this,h1.2.2,h2⟩
theorem qfp{sup:List Int}{a b:List (Int×Int)}(h:zF sup a b)(g:zF sup b a)(ha:jQ a)(hb:jQ b):a=b:=by
 refine Wl h.1 fun i h1 h2=> ?_;exact qc5 (h.2 i h1 h2) (g.2 i h2 h1) (ha _ (Xd _)) (hb _ (Xd _))
theorem kA.uniq{m:za}{f:Int}{S R:List zm}(h:kA m f S)(g:kA m f R):S=R:=by
 obtain⟨e1,h1⟩:=q4t.mp (h.least R g.right);obtain⟨e2,h2⟩:=q4t.mp (g.least S h.right);refine Wl e1 fun i i1 i2=> ?_;have q1:=h1 i i1;have q2:=h2 i i2;rw[Qw i1,Qw i2]at q1 q2;have f1:=h.flat _ (Xd i1);have f2:=g.flat _ (Xd i2);generalize S[i]=s at*
 generalize R[i]=r at*
 obtain⟨sb,st⟩:=s;obtain⟨rb,rt⟩:=r;dsimp only at q1 q2 f1 f2;cases sb
 ·cases rb
  ·rw[f1.2 rfl,f2.2 rfl]
  ·have:=(q2 rfl).1;cases this
 ·have hr:=(q1 rfl).1;subst hr;rw[qfp (q1 rfl).2 (q2 rfl).2 f1.1 f2.1]
def QG(w:World)(B:Nat)(x:zj):Prop:=∃gi rest,x.A=some ⟨gi,0,none⟩∧B≤gi∧ze w gi (zI x.stack++rest) 50
structure vm(w:World)(B g:Nat)(X:List zj):Prop where
 out:qr w g X
 base:B≤g
 own:∀i (hi:i<X.length),X[i].stack≠ []→QG w B X[i]
 apart:∀i j (hi:i<X.length) (hj:j<X.length),i≠j→X[i].stack≠ []→X[j].stack≠ []→X[i].A≠X[j].A
def JK(B:Nat)(X:List zj):Prop:=∀x ∈X,x.stack≠ []→∀ad,x.A=some ad→B≤ad.block
theorem vm.news{w:World}{B g:Nat}{X:List zj}(h:vm w B g X):JK B X:=fun x hx hn ad e=>by
 obtain⟨i,hi,rfl⟩:=Wi hx;obtain⟨gi,_,e2,h2,_⟩:=h.own i hi hn;rw[e]at e2;injection e2 with e2;subst e2;exact h2
theorem JK.more{B C:Nat}{X:List zj}(h:JK C X)(hb:B≤C):JK B X:=fun x hx hn ad e=>Xg hb (h x hx hn ad e)
theorem ze.otherT{w:World}{g:Nat}{vs:List Value}{T:TypeId}(h:ze w g vs T){a:Addr}(ha:g≠a.block)(v:Value):ze (w.setCell a v) g vs T:=(Below.heap_setCell w a v g ha).trans h
theorem ze.type_eq{w:World}{g:Nat}{vs us:List Value}{T U:TypeId}(h:ze w g vs T)(h':ze w g us U):T=U:=by
 unfold ze at h h';rw[h]at h';injection h' with h';injection h'
theorem q3x{w:World}{g:Nat}{vs us:List Value}(h:ze w g vs 75)(h':ze w g us 50):False:=absurd (h.type_eq h') (by decide)
theorem QG.keep{w w':World}{B:Nat}{x:zj}(h:QG w B x)(hb:Below w.heap.size w w'):QG w' B x:=by
 obtain⟨gi,rest,h1,h2,h3⟩:=h;exact⟨gi,rest,h1,h2,h3.keep hb h3.lt⟩
theorem vm.keep{w w':World}{B g:Nat}{X:List zj}(h:vm w B g X)(hb:Below w.heap.size w w'):vm w' B g X:=
 ⟨h.out.keep hb,h.base,fun i hi hn=>(h.own i hi hn).keep hb,h.apart⟩
theorem QG.lt{w:World}{B:Nat}{x:zj}(h:QG w B x):∃gi,x.A=some ⟨gi,0,none⟩∧gi<w.heap.size:=by
 obtain⟨gi,rest,h1,h2,h3⟩:=h;exact⟨gi,h1,h3.lt⟩
theorem YP{α:Type}{X:List α}{i j:Nat}{x:α}(hi:i<X.length)(hj:j<(X.set i x).length):(X.set i x)[j]=if i=j then x else X[j]'(by rw[XD]at hj;exact hj):=by
 rw[List.getElem_set]
theorem vm.put{w0 w:World}{B g i:Nat}{X:List zj}{x:zj}(h:vm w0 B g X)(hb:Below w0.heap.size w0 w)(hB:B≤w0.heap.size)(hi:i<X.length)(hx:zd zh 2 w w.heap.size x.A x.c x.stack)
  (hn:x.stack≠ []→QG w w0.heap.size x):vm (ji w g i x) B g (X.set i x):=by
 have hk:=h.keep hb;have hown:∀{y:zj} {C:Nat},QG w C y→QG (ji w g i x) C y:=fun {y C} q=>by
  obtain⟨gi,rest,h1,h2,h3⟩:=q;have hne:gi≠g:=fun e=>by subst e;exact q3x hk.out.blk h3
  exact⟨gi,rest,h1,h2,(h3.otherT hne _).otherT hne _⟩
 have hB':∀{y:zj},QG (ji w g i x) w0.heap.size y→QG (ji w g i x) B y:=fun {y} ⟨gi,rest,h1,h2,h3⟩=>⟨gi,rest,h1,Xg hB h2,h3⟩
 have hfar:x.stack≠ []→∀j (hj:j<X.length),X[j].stack≠ []→x.A≠X[j].A:=fun q j hj q2 e=>by
  obtain⟨gi,rest,h1,h2,h3⟩:=hn q;obtain⟨gj,e2,h4⟩:=(h.own j hj q2).lt;rw[h1,e2]at e;injection e with e;injection e with e;omega
 refine⟨hk.out.put hi hx,h.base,fun j hj q=> ?_,fun j k hj hk' hjk q1 q2=> ?_⟩
 ·rw[YP hi hj]at q⊢
  by_cases e:i=j
  ·rw[Xb e]at q⊢
   exact hB' (hown (hn q))
  ·rw[Xa e]at q⊢
   exact hown (hk.own j _ q)
 ·rw[YP hi hj]at q1⊢
  rw[YP hi hk']at q2⊢
  by_cases e:i=j
  ·rw[Xb e]at q1⊢
   rw[Xa (fun e2=>hjk (e.symm.trans e2))]at q2⊢
   exact hfar q1 k _ q2
  ·rw[Xa e]at q1⊢
   by_cases e2:i=k
   ·rw[Xb e2]at q2⊢
    exact fun e3=>hfar q2 j _ q1 e3.symm
   ·rw[Xa e2]at q2⊢
    exact h.apart j k _ _ hjk q1 q2
theorem qc4:∀(L:List (Int×Int)) (k:Nat) (t:Int×Int) (rest:List Value),k<L.length→((zI L++rest).set (k*2) (.int .i64 t.1)).set (k*2+1) (.int .i64 t.2)=zI (L.set k t)++rest
 | [],k,t,rest,h=>by simp at h
 |a::L,0,t,rest,h=>rfl
 |a::L,k+1,t,rest,h=>by
  have:=qc4 L k t rest (by simpa using h);show((tyC a++zI L++rest).set _ _).set _ _=tyC a++zI (L.set k t)++rest;rw[X8,X8,←this,show(k+1)*2=k*2+2 by omega];rfl
theorem qlp{w:World}{gi c:Nat}{L:List (Int×Int)}{rest:List Value}(h:ze w gi (zI L++rest) 50)(hc:L.length≤c)(hm:c≤9223372036854775807):zd zh 2 w w.heap.size (some ⟨gi,0,none⟩) c L:=
 ⟨hc,hm,fun i t hi=>by
  have hlt:i<L.length:=by
   rcases Xj i L.length with q|q
   ·exact q
   ·rw[Xu q]at hi;cases hi
  have hl:(zI L).length=L.length*2:=kV L;have e0:=Zm (f:=tyC) (k:=2) (fun _=>rfl) L i 0 t hi (by decide);have e1:=Zm (f:=tyC) (k:=2) (fun _=>rfl) L i 1 t hi (by decide);have c0:=h.cells (i*2) _ (by rw[XJ (by omega)];exact e0);have c1:=h.cells (i*2+1) _ (by rw[XJ (by omega)];exact e1);have ea:(Addr.add ⟨gi,0,none⟩ (i*2))=⟨gi,i*2,none⟩:=by
   unfold Addr.add;split
   ·rename_i h0;rw[h0]
   ·simp
  exact⟨_,rfl,h.lt,by rw[ea];exact c0,by rw[ea];exact c1⟩⟩
theorem st_at{w:World}{gi k:Nat}{L:List (Int×Int)}{rest:List Value}(h:ze w gi (zI L++rest) 50)(hk:k<L.length):w.cell? ⟨gi,k*2,none⟩=some (.int .i64 L[k].1)∧w.cell? ⟨gi,k*2+1,none⟩=some (.int .i64 L[k].2):=by
 have hl:(zI L).length=L.length*2:=kV L;have hi:L[k]? =some L[k]:=Xc hk;have e0:=Zm (f:=tyC) (k:=2) (fun _=>rfl) L k 0 _ hi (by decide);have e1:=Zm (f:=tyC) (k:=2) (fun _=>rfl) L k 1 _ hi (by decide);exact⟨h.cells (k*2) _ (by rw[XJ (by omega)];exact e0),h.cells (k*2+1) _ (by rw[XJ (by omega)];exact e1)⟩
theorem qah:∀(X:List zj) (i:Nat) (x:zj) (hi:i<X.length),x.seen=X[i].seen→x.A=X[i].A→x.c=X[i].c→x.stack.length=X[i].stack.length→Zz (X.set i x)=Zz X
 | [],i,x,hi,_,_,_,_=>by simp at hi
 |y::X,0,x,hi,h1,h2,h3,h4=>by
  show ZS x++Zz X=ZS y++Zz X;have h1:x.seen=y.seen:=h1;have h2:x.A=y.A:=h2;have h3:x.c=y.c:=h3;have h4:x.stack.length=y.stack.length:=h4;unfold ZS;rw[h1,h2,h3,h4]
 |y::X,i+1,x,hi,h1,h2,h3,h4=>by
  show ZS y++Zz (X.set i x)=ZS y++Zz X;rw[qah X i x (by simpa using hi) h1 h2 h3 h4]
abbrev Yl(w:World)(gi k:Nat)(t:Int×Int):World:=(w.setCell ⟨gi,k*2,none⟩ (.int .i64 t.1)).setCell ⟨gi,k*2+1,none⟩ (.int .i64 t.2)
theorem q3t(w:World)(gi k:Nat)(t:Int×Int):∀b,b≠gi→(Yl w gi k t).heap[b]? =w.heap[b]? :=fun b hb=>by
 unfold Yl;rw[Below.heap_setCell _ _ _ b hb,Below.heap_setCell _ _ _ b hb]
theorem q00(w:World)(gi k:Nat)(t:Int×Int):∀q:Addr,q.block≠gi→(Yl w gi k t).cell? q=w.cell? q:=fun q hq=>X7 (q3t w gi k t _ hq)
theorem vm.turn{w:World}{B g i gi k:Nat}{X:List zj}{t:Int×Int}{y:zj}(h:vm w B g X)(hi:i<X.length)(hy:X[i]=y)(hk:k<y.stack.length)(eA:y.A=some ⟨gi,0,none⟩):
  vm (Yl w gi k t) B g (X.set i ⟨y.seen,y.A,y.c,y.stack.set k t⟩):=by
 subst hy;have hne:X[i].stack≠ []:=fun e=>by rw[e]at hk;simp at hk
 obtain⟨gi',rest,e1,hB,hw⟩:=h.own i hi hne;rw[eA]at e1;obtain rfl:gi=gi':=by injection e1 with e1;injection e1
 have hgg:g≠gi:=fun e=>by subst e;exact q3x h.out.blk hw
 have hz:(Yl w gi k t).heap.size=w.heap.size:=by simp[Yl]
 have hw2:ze (Yl w gi k t) gi (zI (X[i].stack.set k t)++rest) 50:=by
  have:=(hw.set (k*2) (.int .i64 t.1)).set (k*2+1) (.int .i64 t.2);rw[qc4 _ _ _ _ hk]at this;exact this
 have hsl:=h.out.row _ (Xd hi);have hfar:∀j (hj:j<X.length),i≠j→X[j].stack≠ []→∀ad,X[j].A=some ad→ad.block≠gi:=fun j hj hij q ad ea eb=>by
  obtain⟨gj,rj,e2,_,_⟩:=h.own j hj q;rw[e2]at ea;injection ea with ea;subst ea;dsimp only at eb;subst eb;exact h.apart i j hi hj hij hne q (eA.trans e2.symm)
 refine⟨⟨?_,fun z hz'=> ?_⟩,h.base,fun j hj q=> ?_,fun j l hj hl hjl q1 q2=> ?_⟩
 ·rw[qah X i ⟨X[i].seen,X[i].A,X[i].c,X[i].stack.set k t⟩ hi rfl rfl rfl (by simp)];exact(h.out.blk.otherT (a:=⟨gi,k*2,none⟩) hgg _).otherT (a:=⟨gi,k*2+1,none⟩) hgg _
 ·obtain⟨j,hj,rfl⟩:=Wi hz';rw[YP hi hj];by_cases e:i=j
  ·rw[Xb e];dsimp only;rw[eA];exact qlp hw2 (by rw[XD];exact hsl.le) hsl.cap
  ·rw[Xa e];have hj':j<X.length:=by rw[XD]at hj;exact hj
   by_cases q:X[j].stack=[]
   ·have:=h.out.row _ (Xd hj');exact⟨this.le,this.cap,fun a b hb=>by rw[q]at hb;simp at hb⟩
   ·exact YF (g:=gi) (h.out.row _ (Xd hj')) (by rw[hz];exact zn _) (q00 w gi k t) (fun a ha ad ea=>hfar j hj' e q ad ea)
 ·rw[YP hi hj]at q⊢
  by_cases e:i=j
  ·rw[Xb e];exact⟨gi,rest,eA,hB,hw2⟩
  ·rw[Xa e]at q⊢
   have hj':j<X.length:=by rw[XD]at hj;exact hj
   obtain⟨gj,rj,e2,h2,h3⟩:=h.own j hj' q;have:=hfar j hj' e q _ e2;exact⟨gj,rj,e2,h2,(q3t w gi k t gj this).trans h3⟩
 ·have hs:∀a (ha:a<(X.set i ⟨X[i].seen,X[i].A,X[i].c,X[i].stack.set k t⟩).length),∃ha':a<X.length,(X.set i ⟨X[i].seen,X[i].A,X[i].c,X[i].stack.set k t⟩)[a].A=X[a].A∧((X.set i ⟨X[i].seen,X[i].A,X[i].c,X[i].stack.set k t⟩)[a].stack≠ []→X[a].stack≠ []):=fun a ha=>by
   have ha':a<X.length:=by rw[XD]at ha;exact ha
   refine⟨ha',?_⟩;rw[YP hi ha];by_cases e:i=a
   ·subst e;rw[Xb rfl];exact⟨rfl,fun _=>hne⟩
   ·rw[Xa e];exact⟨rfl,fun q=>q⟩
  obtain⟨hj',ej,nj⟩:=hs j hj;obtain⟨hl',el,nl⟩:=hs l hl;rw[ej,el];exact h.apart j l hj' hl' hjl (nj q1) (nl q2)
theorem qtb{w w':World}{B c:Nat}{A:Option Addr}{L:List (Int×Int)}(h:zd zh 2 w B A c L)(hz:B≤w'.heap.size)(hb:∀ad,A=some ad→w'.heap[ad.block]? =w.heap[ad.block]?):zd zh 2 w' w'.heap.size A c L:=
 ⟨h.le,h.cap,fun i t hi=>by
  obtain⟨ad,e,h1,h2,h3⟩:=h.row i t hi;have:=hb ad e;refine⟨ad,e,Xp h1 hz,(X7 (w:=w) (by rw[zp];exact this)).trans h2,(X7 (w:=w) (by show w'.heap[(ad.add _).block]? =_;rw[zp];exact this)).trans h3⟩⟩
theorem qru{w w':World}{B c:Nat}{A:Option Addr}{L:List Int}(h:zd zq 1 w B A c L)(hz:B≤w'.heap.size)(hb:∀ad,A=some ad→w'.heap[ad.block]? =w.heap[ad.block]?):zd zq 1 w' w'.heap.size A c L:=
 ⟨h.le,h.cap,fun i t hi=>by
  obtain⟨ad,e,h1,h2⟩:=h.row i t hi;have:=hb ad e;exact⟨ad,e,Xp h1 hz,(X7 (w:=w) (by rw[zp];exact this)).trans h2⟩⟩
def qe9(L:List Int)(w:World)(e:Ending)(w':World):Prop:=∃A c,e= .returned (.slice A L.length c)∧zd zq 1 w' w'.heap.size A c L∧(∀ad,A=some ad→w.heap.size≤ad.block)∧Below w.heap.size w w'
theorem qe2{w:World}{g:Nat}{p q:Int}(hg:g<w.heap.size)(h0:w.cell? ⟨g,0,none⟩=some (.int .i64 p))(h1:w.cell? ⟨g,1,none⟩=some (.int .i64 q)):zd zq 1 w w.heap.size (some ⟨g,0,none⟩) 2 [p,q]:=
 ⟨zn _,by omega,fun i t hi=>by
  match i,hi with
  |0,hi=>simp at hi;subst hi;exact⟨_,rfl,hg,h0⟩
  |1,hi=>simp at hi;subst hi;exact⟨_,rfl,hg,(show w.cell? _=_ by simpa[Addr.add]using h1)⟩
  |i+2,hi=>simp at hi⟩
theorem qop(op a b:Int)(pc:Nat)(hpc:pc≤1000000)(w:World):
  Calls Tryz.prog 136 #[zz op a b,.int .i64 pc] w (qe9 (qE pc op a) w):=by
 have hw1:IntKind.i64.wrap ((pc:Int)+1)=(pc:Int)+1:=IntWalk.i64_in _ (by omega);by_cases h18:op=18
 ·subst h18;have e:qE (pc:Int) 18 a=[a]:=rfl;rw[e];clear e;go_enter Tryz.func136,Tryz.ntmps136;go_wp2_with fail
  go_ret;exact⟨_,_,rfl,q2o (by simp) (by go_simp),(fun ad e=>by injection e with e;subst e;simp),((zb _ _).alloc (zn _) _).alloc (by simp) _⟩
 ·by_cases h19:op=19
  ·subst h19;have e:qE (pc:Int) 19 a=[(pc:Int)+1,a]:=rfl;rw[e];clear e;go_enter Tryz.func136,Tryz.ntmps136;go_wp2_with fail
   go_ret;exact⟨_,_,rfl,qe2 (by simp) (by go_simp) (by go_simp),(fun ad e=>by injection e with e;subst e;simp),((zb _ _).alloc (zn _) _).alloc (by simp) _⟩
  ·by_cases h33:op=33
   ·subst h33;have e:qE (pc:Int) 33 a=[]:=rfl;rw[e];clear e;go_enter Tryz.func136,Tryz.ntmps136;go_wp2_with fail
    go_ret;exact⟨_,_,rfl,ja,(fun ad e=>by cases e),(zb _ _).alloc (zn _) _⟩
   ·have e:qE (pc:Int) op a=[(pc:Int)+1]:=by unfold qE;rw[Xa h18,Xa h19,Xa h33]
    rw[e];clear e;go_enter Tryz.func136,Tryz.ntmps136;go_wp2_with fail
    go_ret;exact⟨_,_,rfl,q2o (by simp) (by go_simp),(fun ad e=>by injection e with e;subst e;simp),((zb _ _).alloc (zn _) _).alloc (by simp) _⟩
theorem qoo{op a b:Int}{pc:Nat}{w:World}{L:List Int}(HL:Hid (qE pc op a=L))(hpc:pc≤1000000):
  Calls Tryz.prog 136 #[zz op a b,.int .i64 pc] w (qe9 L w):=by
 have H:=qop op a b pc hpc w;rw[HL.out]at H;exact H
def ZT(n:Int)(l:List Int):Bool:=l.any fun x=>decide (n≤x)
abbrev qeh(N:Nat):Value:= .func (.func 170) #[] #[.pointer (some ⟨N,0,none⟩)]
theorem qgs(x n:Int)(N:Nat)(w:World)(hc:w.cell? ⟨N,0,none⟩=some (.int .i64 n)):
  Calls Tryz.prog 170 #[.int .i64 x,.pointer (some ⟨N,0,none⟩)] w fun e w'=>e= .returned (.bool (decide (n≤x)))∧w'=w:=by
 go_enter Tryz.func170,Tryz.ntmps170;go_wp2_with fail
 go_ret;exact⟨rfl,rfl⟩
theorem q9n{x n:Int}{N:Nat}{w:World}{r:Bool}(hc:w.cell? ⟨N,0,none⟩=some (.int .i64 n))(HR:Hid (decide (n≤x)=r)):
  Calls Tryz.prog 170 #[.int .i64 x,.pointer (some ⟨N,0,none⟩)] w fun e w'=>e= .returned (.bool r)∧w'=w:=by
 have H:=qgs x n N w hc;rw[HR.out]at H;exact H
theorem qsw{f:Int→Bool}{l:List Int}{k:Nat}(hk:k<l.length)(h:(l.take k).any f=false)(hx:f l[k]=false):(l.take (k+1)).any f=false:=by
 rw[List.take_succ_eq_append_getElem hk,List.any_append,h];simp[hx]
theorem any_at{f:Int→Bool}{l:List Int}{k:Nat}(hk:k<l.length)(hx:f l[k]=true):l.any f=true:=Wd.mpr ⟨_,Xd hk,hx⟩
theorem qk1(l:List Int)(n:Int)(N:Nat)(A:Option Addr)(c:Nat)(w:World)(hc:w.cell? ⟨N,0,none⟩=some (.int .i64 n))(h:zd zq 1 w w.heap.size A c l):
  Calls Tryz.prog 193 #[.slice A l.length c,qeh N] w fun e w'=>∃z:Int,e= .returned (.int .i64 z)∧decide (z ≥ 0)=ZT n l∧w'=w:=by
 have hle:=h.le;have hcap:=h.cap;have HS:=zH h;clear h;go_enter Tryz.func193,Tryz.ntmps193;go_wp2_with fail
 go_loopw [8] (fun i wr=>∃k:Nat,k≤l.length∧i= .int .i64 k∧Hid (ZT n (l.take k)=false)∧wr=w) (fun i _=>l.length - (intOf i).toNat)
 case atStart=>exact⟨0,by omega,rfl,zH rfl,rfl⟩
 case round=>
  obtain⟨k,hk,rfl,HA,rfl⟩:=hrel;by_cases hlt:k<l.length
  ·obtain⟨ad,rfl,hab,hcz⟩:=HS.out.row.at_ hlt;have hcz:wr.cell? (ad.add k)=some (.int .i64 l[k]):=by have:=hcz;rw[Xq]at this;exact this
   obtain⟨r,hr⟩:∃r,decide (n≤l[k])=r:=⟨_,rfl⟩
   have HR:=zH hr;cases r
   ·have HA2:Hid (ZT n (l.take (k+1))=false):=zH (qsw hlt HA.out hr);clear hr;go_wp2_with(go_at_call 170;(with_reducible refine(q9n hc HR).mono ?_);rintro e w1 ⟨rfl,rfl⟩)
    go_roundw;case rel=>exact⟨k+1,by omega,by go_num,HA2,trivial⟩
    case measure=>simp[intOf];omega
   ·have HA2:Hid (ZT n l=true):=zH (any_at hlt hr);clear hr;go_wp2_with(go_at_call 170;(with_reducible refine(q9n hc HR).mono ?_);rintro e w1 ⟨rfl,rfl⟩)
    go_ret;exact⟨_,rfl,by rw[HA2.out];simp,rfl⟩
  ·have HA2:Hid (ZT n l=false):=zH (by have:=HA.out;rwa [XH (by omega)]at this);go_wp2_with fail
   go_ret;exact⟨_,rfl,by rw[HA2.out];rfl,rfl⟩
theorem qfb(l:List Int)(n:Int)(N:Nat)(A:Option Addr)(c:Nat)(w:World)(hc:w.cell? ⟨N,0,none⟩=some (.int .i64 n))(h:zd zq 1 w w.heap.size A c l):
  Calls Tryz.prog 169 #[.slice A l.length c,qeh N] w fun e w'=>e= .returned (.bool (ZT n l))∧w'=w:=by
 have HS:=zH h;have HC:=zH hc;clear h hc;go_enter Tryz.func169,Tryz.ntmps169;go_wp2_with(go_at_call 193;(with_reducible refine(qk1 l n N A c _ HC.out HS.out).mono ?_);rintro e w1 ⟨z,rfl,hz,rfl⟩;have HZ:=zH hz;clear hz)
 go_ret;exact⟨by rw[←HZ.out];rfl,rfl⟩
theorem qgr(l:List Int)(n:Int)(A:Option Addr)(c:Nat)(w:World)(h:zd zq 1 w w.heap.size A c l):
  Calls Tryz.prog 137 #[.slice A l.length c,.int .i64 n] w fun e w'=>e= .returned (.bool (ZT n l))∧Below w.heap.size w w':=by
 have hA:Below w.heap.size w (w.alloc (.cells #[.int .i64 n] 3)):=(zb _ _).alloc (zn _) _;have HA:=zH hA;have HS:=zH ((h.below_to zq.keeps hA (zn _)).keep' zq.keeps hA.size (fun _ _=>rfl));have HC:=zH (qa w [.int .i64 n] 3);clear h hA;go_enter Tryz.func137,Tryz.ntmps137;go_upto_region 1 with fail
 generalize w.alloc (.cells #[.int .i64 n] 3)=w1 at*
 have c0:=HC.out 0 _ rfl;go_wp2_with(go_at_call 169;(with_reducible refine(qfb l n w.heap.size A c w1 c0 HS.out).mono ?_);rintro e w2 ⟨rfl,rfl⟩)
 go_ret;exact⟨rfl,HA.out⟩
theorem q9m{l:List Int}{n:Int}{A:Option Addr}{c:Nat}{w:World}{r:Bool}(h:zd zq 1 w w.heap.size A c l)(HR:Hid (ZT n l=r)):
  Calls Tryz.prog 137 #[.slice A l.length c,.int .i64 n] w fun e w'=>e= .returned (.bool r)∧Below w.heap.size w w':=by
 have H:=qgr l n A c w h;rw[HR.out]at H;exact H
def zJ(m:za)(x:zf)(op a b:Int):List (Int×Int):=
 if op=4 then [qm x a]else if op=5∨op=6 then [(6,0)]else if op=19∨op=23 then [(1,0)]else if op=20 then [(7,0)]else if op=21 then [(7,0),(7,0)]else
 if op=24 then [(2,0),(1,0)]else if op=25 then [(2,0),(1,0),(1,0)]else if op=26 then [(2,0)]else if op=27 then [(3,a)]else if op=28 then [(3,a),ZL m a b]else
 if op=30 then [ZF m a]else if op=31 then(zu m a).args else if op=32 then(3,a)::(zu m (kB m a b)).args.drop 1 else if op=33 then qR x else if op=34 then [(8,0)]else
 if 7≤op∧op≤17 then [(1,0),(1,0)]else []
def zU(m:za)(x:zf)(op a b:Int)(tk:List (Int×Int)):List (Int×Int):=if op=6 then tk++tk else zy m x op a b
abbrev qz(h:zg)(m:za)(op a b:Int)(w:World):World:=(qn h m op a b w).alloc (.cells #[.int .i64 op,.int .i64 a,.int .i64 b] 55)
structure q66(w2:World)(N:Nat)(h:zg)(m:za)(op a b:Int):Prop where
 img:Zs w2 N h m
 ins:zW w2 (N+1) [.int .i64 op,.int .i64 a,.int .i64 b]
 fn:zW w2 (N+1+1) [.int .i64 op,.int .i64 a,.int .i64 b]
 size:w2.heap.size=N+1+1+1
theorem qF(h:zg)(m:za)(op a b:Int)(w:World):Below w.heap.size w (qz h m op a b w)∧q66 (qz h m op a b w) w.heap.size h m op a b:=by
 obtain⟨h0,h1⟩:=q4g h m op a b w;obtain⟨c1,z1,b1⟩:=kr h1.size [.int .i64 op,.int .i64 a,.int .i64 b] 55;exact⟨h0.trans (b1.mono (by omega)),h1.img.keep b1 (by omega),h1.ins.keep b1 (by omega),c1,z1⟩
theorem q66.fnlt{w2:World}{N:Nat}{h:zg}{m:za}{op a b:Int}(H:q66 w2 N h m op a b):N+1+1<w2.heap.size:=by have:=H.size;omega
theorem qG{h:zg}{m:za}{op a b:Int}{w:World}:Calls Tryz.prog 171 #[zz op a b] (qn h m op a b w) fun e w'=>e= .returned (mkF (w.heap.size+1+1))∧w'=qz h m op a b w:=by
 refine(qjy op a b _).mono ?_;rintro e w' ⟨rfl,rfl⟩;refine⟨?_,rfl⟩;have hz:(qn h m op a b w).heap.size=w.heap.size+1+1:=by simp
 rw[hz]
theorem qo9{w:World}{g:Nat}{p q r:Int}(hg:g<w.heap.size)(h0:w.cell? ⟨g,0,none⟩=some (.int .i64 p))(h1:w.cell? ⟨g,1,none⟩=some (.int .i64 q))(h2:w.cell? ⟨g,2,none⟩=some (.int .i64 r)):zd zq 1 w w.heap.size (some ⟨g,0,none⟩) 3 [p,q,r]:=
 ⟨zn _,by show 3≤9223372036854775807;omega,fun i t hi=>by
  match i,hi with
  |0,hi=>simp at hi;subst hi;exact⟨_,rfl,hg,h0⟩
  |1,hi=>simp at hi;subst hi;exact⟨_,rfl,hg,(show w.cell? _=_ by simpa[Addr.add]using h1)⟩
  |2,hi=>simp at hi;subst hi;exact⟨_,rfl,hg,(show w.cell? _=_ by simpa[Addr.add]using h2)⟩
  |i+3,hi=>simp at hi⟩
def kX(w0:World)(L:List (Int×Int))(e:Ending)(w':World):Prop:=∃v,e= .returned v∧w'.ownsRow w0.heap.size 50 2 v L.length (zI L)∧Below w0.heap.size w0 w'
theorem kX.some_{w w0:World}{L:List (Int×Int)}{e:Ending}{w':World}(h:kX w0 L e w')(hb:Below w.heap.size w w0):qd L w e w':=by
 obtain⟨v,rfl,ho,hx⟩:=h;obtain⟨A,c,rfl,hs,_⟩:=kU ho;exact⟨A,c,rfl,hs,hb.trans (hx.mono hb.size)⟩
theorem q61{k0 op a b:Int}{N:Nat}{w0 w:World}{L:List (Int×Int)}(HL:Hid (zQ a [k0]=L))(HN:Hid (N<w0.heap.size))(HC:Hid (zW w0 N [.int .i64 op,.int .i64 a,.int .i64 b]))(HX:Hid (Below w0.heap.size w0 w)):
  Calls Tryz.prog 194 #[.slice (some ⟨w.heap.size,0,none⟩) 1 1,.pointer (some ⟨N,0,none⟩)] (w.alloc (.cells #[.int .i64 k0] 3)) (kX w0 L):=by
 have hA:=HX.out.alloc HX.out.size (.cells #[.int .i64 k0] 3);refine(q2u (ks:=[k0]) HL (Xp HN.out hA.size) (HC.out.keep hA HN.out) (q2o (by simp) (by go_simp)) (by simp)).mono ?_;rintro e w' ⟨v,rfl,ho,hb⟩;exact⟨v,rfl,jc ho hA.size,hA.trans (hb.mono hA.size)⟩
theorem qe4{k0 k1 op a b:Int}{N:Nat}{w0 w:World}{L:List (Int×Int)}(HL:Hid (zQ a [k0,k1]=L))(HN:Hid (N<w0.heap.size))(HC:Hid (zW w0 N [.int .i64 op,.int .i64 a,.int .i64 b]))(HX:Hid (Below w0.heap.size w0 w)):
  Calls Tryz.prog 194 #[.slice (some ⟨w.heap.size,0,none⟩) 2 2,.pointer (some ⟨N,0,none⟩)] (w.alloc (.cells #[.int .i64 k0,.int .i64 k1] 3)) (kX w0 L):=by
 have hA:=HX.out.alloc HX.out.size (.cells #[.int .i64 k0,.int .i64 k1] 3);refine(q2u (ks:=[k0,k1]) HL (Xp HN.out hA.size) (HC.out.keep hA HN.out) (qe2 (by simp) (by go_simp) (by go_simp)) (by simp)).mono ?_;rintro e w' ⟨v,rfl,ho,hb⟩;exact⟨v,rfl,jc ho hA.size,hA.trans (hb.mono hA.size)⟩
theorem qup{k0 k1 k2 op a b:Int}{N:Nat}{w0 w:World}{L:List (Int×Int)}(HL:Hid (zQ a [k0,k1,k2]=L))(HN:Hid (N<w0.heap.size))(HC:Hid (zW w0 N [.int .i64 op,.int .i64 a,.int .i64 b]))(HX:Hid (Below w0.heap.size w0 w)):
  Calls Tryz.prog 194 #[.slice (some ⟨w.heap.size,0,none⟩) 3 3,.pointer (some ⟨N,0,none⟩)] (w.alloc (.cells #[.int .i64 k0,.int .i64 k1,.int .i64 k2] 3)) (kX w0 L):=by
 have hA:=HX.out.alloc HX.out.size (.cells #[.int .i64 k0,.int .i64 k1,.int .i64 k2] 3);refine(q2u (ks:=[k0,k1,k2]) HL (Xp HN.out hA.size) (HC.out.keep hA HN.out) (qo9 (by simp) (by go_simp) (by go_simp) (by go_simp)) (by simp)).mono ?_;rintro e w' ⟨v,rfl,ho,hb⟩;exact⟨v,rfl,jc ho hA.size,hA.trans (hb.mono hA.size)⟩
theorem qd4{k op a b:Int}{N:Nat}{w0:World}{L:List (Int×Int)}(HL:Hid (zQ a [k]=L))(HN:Hid (N<w0.heap.size))(HC:Hid (zW w0 N [.int .i64 op,.int .i64 a,.int .i64 b])):
  Calls Tryz.prog 194 #[.slice (some ⟨w0.heap.size,0,none⟩) 1 1,.pointer (some ⟨N,0,none⟩)] (w0.alloc (.cells #[.int .i64 k] 3)).drew (kX w0 L):=by
 have hA:=((zb w0.heap.size w0).alloc (zn _) (.cells #[.int .i64 k] 3)).drew;refine(q2u (ks:=[k]) HL (Xp HN.out hA.size) (HC.out.keep hA HN.out) (q2o (by simp) (by go_simp)) (by simp)).mono ?_;rintro e w' ⟨v,rfl,ho,hb⟩;exact⟨v,rfl,jc ho hA.size,hA.trans (hb.mono hA.size)⟩
theorem kA.set{m:za}{f:Int}{S:List zm}(h:kA m f S):Jh m f S:=by
 have hr:=h.right;unfold jx q2v at hr;simp only[Xv,Xr]at hr;obtain⟨⟨_,h2,h3,_⟩,h5⟩:=hr;refine⟨⟨h2,h3,h.small⟩,fun pc hpc hs=> ?_⟩;have h6:=Xy.mp h5 pc (XQ.mpr hpc);unfold ve goB at h6;rw[hs]at h6;simp only[Bool.not_true,Bool.false_or,Xv,Xr]at h6;refine⟨h6.1,fun n hn=> ?_⟩;have h7:=Xy.mp h6.2 n hn;unfold onB at h7;rw[Xv]at h7;have h8:VC (zt m.classes) (zD m f pc (zr S pc).stack).after (zr S n).stack=true:=by
  exact h7.2
 unfold VC at h8;rw[Xv,Xr]at h8;exact⟨h7.1,h8.1⟩
theorem qg2(x:zf)(hx:qh)(w:World)(ha:x.args.length≤1000)(hl:x.locals.length≤1000):
  Calls Tryz.prog 132 #[jH hx x] w fun e w'=>e= .returned (.int .i64 ((x.args.length:Int)+(x.locals.length:Int)))∧Below w.heap.size w w':=by
 go_enter Tryz.func132,Tryz.ntmps132;go_wp2
 go_ret;exact⟨rfl,(zb _ _).alloc (zn _) _⟩
theorem q76{P:Prop}(h:P:=by
 go_enter Tryz.func126,Tryz.ntmps126;go_wp2_with(go_at_call 167;(with_reducible refine(q23 _ _ _ _).mono ?_);rintro e w' ⟨he,hb⟩;rw[R.out]at he;subst he;obtain⟨q0,q1⟩:=C0.out _ hb)
 go_ret;exact⟨by rw[E2.out];rfl,HW.out.trans (hb.mono HW.out.size)⟩):P:=h
theorem qg1(k n c:Int)(w:World):Calls Tryz.prog 126 #[zA k n,.int .i64 c] w fun e w'=>e= .returned (.bool (vY (k,n) c))∧Below w.heap.size w w':=by
 have HW:=zH ((zb w.heap.size w).alloc (zn _) (.cells #[.int .i64 k,.int .i64 n] 50));have c0:∀w',Below (w.alloc (.cells #[.int .i64 k,.int .i64 n] 50)).heap.size (w.alloc (.cells #[.int .i64 k,.int .i64 n] 50)) w'→w'.cell? ⟨w.heap.size,0,none⟩=some (.int .i64 k)∧w'.cell? ⟨w.heap.size,1,none⟩=some (.int .i64 n):=fun w' hb=>
  ⟨(hb.cell (p:=⟨w.heap.size,0,none⟩) (by simp)).trans (by rw[World.cell?_alloc_at _ _ _ _ rfl];rfl),(hb.cell (p:=⟨w.heap.size,1,none⟩) (by simp)).trans (by rw[World.cell?_alloc_at _ _ _ _ rfl];rfl)⟩
 have C0:=zH c0;clear c0;obtain⟨r,hr⟩:∃r,qA k n c=r:=⟨_,rfl⟩
 have R:=zH hr;have E:=zH (show vY (k,n) c=(decide (k=5∧n=0)||r)by rw[←hr];unfold vY;rw[XV];simp);clear hr;cases r
 ·by_cases h5:k=5∧n=0
  ·obtain⟨rfl,rfl⟩:=h5;go_enter Tryz.func126,Tryz.ntmps126;go_wp2_with(go_at_call 167;(with_reducible refine(q23 _ _ _ _).mono ?_);rintro e w' ⟨he,hb⟩;rw[R.out]at he;subst he;obtain⟨q0,q1⟩:=C0.out _ hb)
   go_ret;exact⟨by rw[E.out];rfl,HW.out.trans (hb.mono HW.out.size)⟩
  ·have E2:=zH (show vY (k,n) c=false by rw[E.out,Xf h5];rfl);have hxx:¬k=5∨(k=5∧¬n=0):=by omega
   clear h5;rcases hxx with hxx|⟨rfl,hxx⟩
   all_goals
    exact q76
 ·have E2:=zH (show vY (k,n) c=true by rw[E.out];simp);exact q76
def YS(vs:List (List (Int×Int)))(c:Int):Bool:=vs.all fun l=>js l c
set_option maxHeartbeats 1600000 in
theorem qfg(c:Int)(vs:List (List (Int×Int)))(A:Option Addr)(cap B:Nat)(w:World)(hB:B≤w.heap.size)(h:zd (zG zh 2) 1 w B A cap vs):
  Calls Tryz.prog 127 #[.int .i64 c,.slice A vs.length cap] w fun e w'=>e= .returned (.bool (YS vs c))∧Below w.heap.size w w':=by
 have hlc:=h.le;have hcm:=h.cap;have HL:=zH h;have HB:=zH hB;obtain⟨b,hb⟩:∃b,YS vs c=b:=⟨_,rfl⟩
 rw[hb];have E:=zH hb.symm;clear h hB hb;go_enter Tryz.func127,Tryz.ntmps127;go_wp2
 go_loopw [11] (fun i wr=>∃k:Nat,k≤vs.length∧i= .int .i64 k∧Hid (∀l ∈vs.take k,js l c=true)∧Hid (Below w.heap.size w wr)) (fun i _=>vs.length - (intOf i).toNat)
 case atStart=>exact⟨0,by omega,rfl,zH (by simp),zH (zb _ _)⟩
 case round=>
  obtain⟨k,hk,rfl,HN,HX⟩:=hrel;by_cases hlt:k<vs.length
  ·obtain⟨ad,rfl,hab,A1,k1,q0,hq1⟩:=HL.out.row.at_ hlt;rw[Xq]at q0;have q0:=(HX.out.cell (p:=ad.add k) (by rw[zp];exact Xp hab HB.out)).trans q0;have HNO:=zH (fun g:js vs[k] c=false=>(vb hlt g:YS vs c=false));have HYE:=zH (fun g:js vs[k] c=true=>jT hlt HN.out g);generalize vs[k]=l at*
   have HT:=zH hq1;have hl1:=hq1.le;have hl2:=hq1.cap;clear hq1;go_wp2_with fail
   go_loopw [17] (fun i wr=>∃k2:Nat,k2≤l.length∧i= .int .i64 k2∧Hid (∀t ∈l.take k2,qA t.1 t.2 c=true)∧Hid (Below w.heap.size w wr)) (fun i _=>l.length - (intOf i).toNat)
   case atStart=>exact⟨0,by omega,rfl,zH (by simp),HX⟩
   case round=>
    clear q0;obtain⟨k2,hk2,rfl,HN2,HX2⟩:=hrel;by_cases hlt2:k2<l.length
    ·obtain⟨ad2,rfl,hab2,r0,r1⟩:=(HT.out.below_to zh.keeps HX2.out HB.out).row.at_ hlt2;have HNO2:=zH (fun g:(fun t:Int×Int=>qA t.1 t.2 c) l[k2]=false=>(vb hlt2 g:js l c=false));have HYE2:=zH (fun g:(fun t:Int×Int=>qA t.1 t.2 c) l[k2]=true=>jT hlt2 HN2.out g);generalize l[k2]=t at*
     obtain⟨x,y⟩:=t;dsimp only at r0 r1;obtain⟨g,hg⟩:∃g,qA x y c=g:=⟨_,rfl⟩
     have G:=zH hg;clear hg;have HA:=zH (HX2.out.alloc HX2.out.size (.cells #[.int .i64 x,.int .i64 y] 50));cases g
     ·have E2:=zH (show b=false from E.out.trans (HNO.out (HNO2.out G.out)));go_wp2_with(go_at_call 167;(with_reducible refine(q23 _ _ _ _).mono ?_);rintro e w3 ⟨he,hb⟩;rw[G.out]at he;subst he;have HX3:=zl HA hb;clear hb)
      go_ret;exact⟨by rw[E2.out];rfl,HX3.out⟩
     ·go_wp2_with(go_at_call 167;(with_reducible refine(q23 _ _ _ _).mono ?_);rintro e w3 ⟨he,hb⟩;rw[G.out]at he;subst he;have HX3:=zl HA hb;clear hb)
      go_roundw;case rel=>exact⟨k2+1,by omega,by go_num,zH (HYE2.out G.out),HX3⟩
      case measure=>simp[intOf];omega
    ·have HY:=zH (HYE.out (vc (l:=l) HN2.out (by omega)));go_wp2_with fail
     go_roundw;case rel=>exact⟨k+1,by omega,by go_num,HY,HX2⟩
     case measure=>simp[intOf];omega
  ·have E2:=zH (show b=true from E.out.trans (vc HN.out (by omega)));go_wp2_with fail
   go_ret;exact⟨by rw[E2.out];rfl,HX.out⟩
def supB(cl:List zO)(i:Nat):Bool:=match cl[i]? with
 |some c=>decide (c.sup<(i:Int))
 |none=>true
def Za(cl:List zO):Bool:=(List.range cl.length).all (supB cl)
theorem q0i{cl:List zO}{i:Nat}{c:zO}(h:Za cl=true)(hc:cl[i]? =some c):c.sup<(i:Int):=by
 obtain⟨hi,_⟩:=Xw.mp hc;have:=Xy.mp h i (XQ.mpr hi);unfold supB at this;rw[hc]at this;simpa using this
theorem qqh{cl:List zO}{i:Nat}{c:zO}(hc:cl[i]? =some c)(h:¬c.sup<(i:Int)):Za cl=false:=by
 rw[X9];exact fun g=>h (q0i g hc)
set_option maxHeartbeats 1600000 in
theorem qg0(cl:List zO)(A:Option Addr)(cap B:Nat)(w:World)(hB:B≤w.heap.size)(h:zd jW 3 w B A cap cl):
  Calls Tryz.prog 84 #[.slice A cl.length cap] w fun e w'=>e= .returned (.bool (Za cl))∧Below w.heap.size w w':=by
 have hlc:=h.le;have hcm:=h.cap;have HL:=zH h;have HB:=zH hB;obtain⟨b,hb⟩:∃b,Za cl=b:=⟨_,rfl⟩
 rw[hb];have E:=zH hb.symm;clear h hB hb;go_enter Tryz.func84,Tryz.ntmps84;go_wp2
 go_loopw [7] (fun i wr=>∃k:Nat,k≤cl.length∧i= .int .i64 k∧Hid (∀i<k,supB cl i=true)∧Hid (Below w.heap.size w wr)) (fun i _=>cl.length - (intOf i).toNat)
 case atStart=>exact⟨0,by omega,rfl,zH (by intro i hi;omega),zH (zb _ _)⟩
 case round=>
  obtain⟨k,hk,rfl,HN,HX⟩:=hrel;by_cases hlt:k<cl.length
  ·obtain⟨ad,rfl,hab,hc⟩:=(HL.out.below_to jW.keeps HX.out HB.out).row.at_ hlt;have HG:=zH (Xc hlt);generalize cl[k]=c at*
   obtain⟨s0,⟨A1,k1,s1,hs1⟩,⟨A2,k2,s2,hs2⟩,sr⟩:=hc;clear hs1 hs2;have HA:=zH (HX.out.alloc HX.out.size (.cells #[.int .i64 c.sup,.slice A1 c.fields.length k1,.slice A2 c.slots.length k2] 81));by_cases hc:c.sup<(k:Int)
   ·have HY:Hid (∀i<k+1,supB cl i=true):=zH (fun i hi=>by
     by_cases e:i=k
     ·subst e;unfold supB;rw[HG.out];exact Xh hc
     ·exact HN.out i (by omega))
    have hc':¬(k:Int)≤c.sup:=by omega
    go_wp2_with fail
    go_roundw;case rel=>exact⟨k+1,by omega,by go_num,HY,HA⟩
    case measure=>simp[intOf];omega
   ·have E2:=zH (show b=false from E.out.trans (qqh HG.out hc));have hc':(k:Int)≤c.sup:=by omega
    go_wp2_with fail
    go_ret;exact⟨by rw[E2.out];rfl,HA.out⟩
  ·have E2:=zH (show b=true from E.out.trans (Xy.mpr fun i hi=>HN.out i (by have:=XQ.mp hi;omega)));go_wp2_with fail
   go_ret;exact⟨by rw[E2.out];rfl,HX.out⟩
abbrev cntV(N:Nat):Value:= .func (.func 128) #[] #[.pointer (some ⟨N,0,none⟩)]
theorem qff(n:Nat)(A:Option Addr)(cap:Nat)(w:World):
  Calls Tryz.prog 85 #[.slice A n cap] w fun e w'=>e= .returned (cntV w.heap.size)∧w'=w.alloc (.cells #[.slice A n cap] 22):=by
 go_enter Tryz.func85,Tryz.ntmps85;go_wp2
 go_ret;exact⟨rfl,rfl⟩
theorem qk3(cl:List zO){c:Int}(h:c<0):zV cl c=[]:=by
 unfold zV zv;rw[Xa (by omega)];rfl
theorem qgt{cl:List zO}{i:Nat}{c:zO}(h:cl[i]? =some c)(hs:c.sup<(i:Int)):zV cl (i:Int)=zV cl c.sup++c.fields:=by
 have e:(zt cl)[i]? =some c.sup:=by unfold zt;rw[Xx,h];rfl
 unfold zV;rw[show zv (zt cl) (i:Int)=(i:Int)::zv (zt cl) c.sup by
  unfold zv;rw[Xb (by omega),Xe,q1c e,Xb hs];rfl]
 rw[List.reverse_cons,Wc];congr 1;simp[vE,h]
theorem qk4{cl:List zO}(h:∀c ∈cl,c.fields.length≤1000)(hn:cl.length≤1000)(c:Int):(zV cl c).length≤1000000:=by
 unfold zV;have h1:=VY h (zv (zt cl) c).reverse;have h2:=YB (zt cl) c;rw[jS]at h2;rw[List.length_reverse]at h1;omega
set_option maxHeartbeats 1600000 in
theorem q8r(cl:List zO)(c:Int)(N:Nat)(A:Option Addr)(cap B:Nat)(w:World)(hB:B≤w.heap.size)(h:zd jW 3 w B A cap cl)(hp:w.cell? ⟨N,0,none⟩=some (.slice A cl.length cap))
  (hs:Za cl=true) (hf:∀x ∈cl,x.fields.length≤1000) (hn:cl.length≤1000) (h1:c<cl.length):
  Calls Tryz.prog 128 #[.int .i64 c,.pointer (some ⟨N,0,none⟩)] w fun e w'=>e= .returned (.int .i64 ((zV cl c).length:Int))∧w=w':=by
 have hlc:=h.le;have hcm:=h.cap;have HL:=zH h;have HB:=zH hB;have HS:=zH hs;have HF:=zH (qk4 hf hn);obtain⟨s,hs'⟩:∃s,(zV cl c).length=s:=⟨_,rfl⟩
 have hs1:s≤1000000:=by rw[←hs'];exact HF.out c
 rw[hs'];have E:=zH hs';clear h hB hs hf hs';go_enter Tryz.func128,Tryz.ntmps128;go_wp2
 go_loop [0,4] (fun v u=>∃(d:Int) (j:Nat),v= .int .i64 d∧u= .int .i64 (j:Int)∧d<cl.length∧j≤s∧Hid (j+(zV cl d).length=s)) (fun v _=>(intOf v+1).toNat)
 case atStart=>exact⟨c,0,rfl,rfl,h1,by omega,zH (by rw[Nat.zero_add];exact E.out)⟩
 case round=>
  obtain⟨d,j,rfl,rfl,hd,hj,HJ⟩:=hrel;by_cases h0:0≤d
  ·obtain⟨n,rfl⟩:=Xm h0;have hnl:n<cl.length:=by omega
   obtain⟨ad,rfl,hab,hc⟩:=HL.out.row.at_ hnl;have HG:=zH (Xc hnl);have HST:=zH (qgt HG.out (q0i HS.out HG.out));have hsu:=q0i HS.out HG.out;generalize cl[n]=x at*
   obtain⟨s0,⟨A1,k1,s1',hs1'⟩,⟨A2,k2,s2,hs2⟩,sr⟩:=hc;have hfl:j+x.fields.length≤s:=by
    have:=HJ.out;rw[HST.out,Xt]at this;omega
   have HJ2:Hid ((j+x.fields.length)+(zV cl x.sup).length=s):=zH (by
    have:=HJ.out;rw[HST.out,Xt]at this;omega)
   clear hs1' hs2 HJ;go_wp2_with fail
   go_round
   case rel=>exact⟨x.sup,j+x.fields.length,rfl,by go_num,by omega,hfl,HJ2⟩
   case measure=>simp[intOf];omega
  ·have e:j=s:=by
    have:=HJ.out;rw[qk3 cl (by omega)]at this;simpa using this
   subst e;go_wp2_with fail
   go_ret;exact⟨rfl,rfl⟩
def qdo(w0 w:World)(l:List Int)(e:Ending)(w':World):Prop:=∃A k,e= .returned (.slice A l.length k)∧zd zq 1 w0 w0.heap.size A k l∧w=w'
theorem qhu(m:za)(i:Nat)(x:zO)(h:zg)(w0 w:World)(H:zd jW 3 w0 w0.heap.size h.A0 h.c0 m.classes)(hX:Below w0.heap.size w0 w)(hx:m.classes[i]? =some x)(hs:x.sup<m.classes.length):
  Calls Tryz.prog 129 #[.slice h.A0 m.classes.length h.c0,.int .i64 (i:Int)] w (qdo w0 w (vu m x)):=by
 have hlc:=H.le;have hcm:=H.cap;obtain⟨hil,hxe⟩:=Xw.mp hx;obtain⟨ad,hA0,hab,hcl⟩:=H.row i x hx;obtain⟨s0,⟨A1,k1,s1,hs1⟩,⟨A2,k2,s2,hs2⟩,sr⟩:=hcl;have r0:=(hX.cell (p:=ad.add (i*3)) (by rw[zp];exact hab)).trans s0;have HL:=zH H;have HX:=zH hX;clear hx hxe s0 s1 s2 hs1 hs2 H hX;rw[hA0];by_cases h0:0≤x.sup
 ·obtain⟨ny,hny⟩:=Xm h0;have hnyl:ny<m.classes.length:=by omega
  obtain⟨ady,e0,haby,hcy⟩:=HL.out.row.at_ hnyl;have HAY:=zH (show vu m x=m.classes[ny].slots by unfold vu;rw[Xb h0,hny,Xe,Xc hnyl]);generalize m.classes[ny]=y at*
  obtain⟨_,_,⟨A2y,k2y,sy,hsy⟩,_⟩:=hcy;have sy:=(HX.out.cell (p:=zc (ady.add (ny*3)) 2) (by show(ady.add _).block<_;rw[zp];exact haby)).trans sy;rw[hA0]at e0;obtain rfl:ad=ady:=by injection e0
  rw[hny]at r0;have HSY:=zH hsy;clear hsy e0 hA0 h0;go_enter Tryz.func129,Tryz.ntmps129;go_wp2
  go_ret;exact⟨A2y,k2y,by rw[HAY.out];rfl,by rw[HAY.out];exact HSY.out,rfl⟩
 ·have HAY:=zH (show vu m x=[]from Xa h0);have h1:x.sup<0:=by omega
  clear hA0 h0;go_enter Tryz.func129,Tryz.ntmps129;go_wp2
  go_ret;exact⟨none,0,by rw[HAY.out];rfl,by rw[HAY.out];exact⟨zn _,by omega,qB.nil⟩,rfl⟩
def ZI(m:za)(c s:Int):Bool:=match m.methods[s.toNat]? with
 |none=>false
 |some f=>match f.args with
  | []=>false
  |t::_=>zw (zt m.classes) 3 c t.1 t.2
theorem qm2{m:za}{c:Int}{n:Nat}(h:m.methods.length≤n):ZI m c (n:Int)=false:=by
 unfold ZI;rw[Xe,Xu h]
theorem qm3{m:za}{c:Int}{n:Nat}{f:zf}(h:m.methods[n]? =some f)(hf:f.args=[]):ZI m c (n:Int)=false:=by
 unfold ZI;rw[Xe,h];dsimp only;rw[hf]
theorem qqf{m:za}{c:Int}{n:Nat}{f:zf}{t:Int×Int}{r:List (Int×Int)}(h:m.methods[n]? =some f)(hf:f.args=t::r):ZI m c (n:Int)=zw (zt m.classes) 3 c t.1 t.2:=by
 unfold ZI;rw[Xe,h];dsimp only;rw[hf]
theorem qui{m:za}{h:zg}{c t0 t1:Int}{w0 w:World}{r:Bool}(HI:Hid (zi w0 w0.heap.size h m))(HX:Hid (Below w0.heap.size w0 w))(HN:Hid (m.classes.length≤1000))(HR:Hid (zw (zt m.classes) 3 c t0 t1=r)):
  Calls Tryz.prog 144 #[.slice h.A0 m.classes.length h.c0,zA 3 c,zA t0 t1] w fun e w'=>e= .returned (.bool r)∧Below w.heap.size w w':=by
 have H:=QW (zt m.classes) 3 c t0 t1 h.A0 h.c0 w.heap.size w (by rw[jS];have:=HN.out;omega) (zn _) (Qp (HI.out.now HX.out).classes.row);rw[HR.out,jS]at H;exact H
set_option maxHeartbeats 1600000 in
theorem qhe(m:za)(c:Int)(n:Nat)(h:zg)(w:World)(H:zi w w.heap.size h m)(hn:m.classes.length≤1000):
  Calls Tryz.prog 130 #[zk h m,.int .i64 (n:Int),.int .i64 c] w fun e w'=>e= .returned (.bool (ZI m c (n:Int)))∧Below w.heap.size w w':=by
 have HW:=zH (jz (w:=w) (h:=h) (m:=m));have HBX:=zH (zX w h m);have HZ:Hid (w.heap.size<(w.alloc (zo h m)).heap.size):=zH (by simp);have HI:=zH (H.now HW.out);have HN:=zH hn;have l3:=H.methods.le;have l3c:=H.methods.cap;clear H hn;go_enter Tryz.func130,Tryz.ntmps130;go_upto_region 1 with fail
 generalize w.alloc (zo h m)=w1 at*
 obtain⟨q0,q1,q2,q3,q4,q5,q6⟩:=HBX.out;by_cases hnl:n<m.methods.length
 ·obtain⟨adm,e3,habm,hcm⟩:=HI.out.methods.row.at_ hnl;have HME:=zH (Xc hnl);have HE3:=zH e3;generalize m.methods[n]=f at*
  obtain⟨fa,fl,fr,fc,fd,fp,fh⟩:=f;obtain⟨⟨A0f,j0,f0,hf0⟩,_,_,_,_,_,_,_⟩:=hcm;dsimp only at f0 hf0;have HSfa:=zH hf0;have hj0:=hf0.le;have hj0c:=hf0.cap;rw[e3]at q3;clear e3 hf0;by_cases hfa0:fa.length=0
  ·have SL:=zH (qm3 (c:=c) HME.out (XZ hfa0));have ht0:((fa.length:Int)==0)=true:=X6.mpr (by omega);clear hfa0;go_wp2_with fail
   go_ret;exact⟨by rw[SL.out];rfl,HW.out⟩
  ·have hfp:0<fa.length:=by omega
   have ht0:((fa.length:Int)==0)=false:=XK.mpr (by omega);have HFT:=zH (show fa=fa[0]::fa.drop 1 from Wr hfp);obtain⟨adt,rfl,habt,r0,r1⟩:=HSfa.out.row.at_ hfp;have HF0:Hid (∀W,Below w1.heap.size w1 W→W.cell? (adm.add (n*8))=some (.slice (some adt) fa.length j0)):=zH (fun W hW=>(hW.cell (p:=adm.add (n*8)) (by rw[zp];exact habm)).trans f0);clear hfa0;generalize fa[0]=t at*
   obtain⟨t0,t1⟩:=t;rw[Nat.zero_mul,show adt.add 0=adt by simp[Addr.add]]at r0 r1;have HR2:Hid (∀W,Below w1.heap.size w1 W→W.cell? adt=some (.int .i64 t0)∧W.cell? (zc adt 1)=some (.int .i64 t1)):=zH (fun W hW=>zh.keeps (x:=(t0,t1)) ⟨r0,r1⟩ habt (zn _) (fun _ hq=>hW.cell hq));obtain⟨r0,r1⟩:=HR2.out _ (zb _ _);have HXd:Hid (Below w1.heap.size w1 w1.drew):=zH (zb _ _).drew;obtain⟨d4,hd4⟩:∃d,zw (zt m.classes) 3 c t0 t1=d:=⟨_,rfl⟩
   have D4:=zH hd4;have SL:=zH ((qqf (c:=c) HME.out HFT.out).trans hd4);clear hd4 habt;go_upto_region 3 with fail
   go_region_held3 (fun w'=>w'.cell? ⟨w.heap.size,0,none⟩=some (.slice h.A0 m.classes.length h.c0)∧w'.cell? ⟨w.heap.size,3,none⟩=some (.slice (some adm) m.methods.length h.c3)∧w'.cell? (adm.add (n*8))=some (.slice (some adt) fa.length j0)∧w'.cell? adt=some (.int .i64 t0)∧w'.cell? (zc adt 1)=some (.int .i64 t1)) (first|exact⟨q0,q3,f0,r0,r1⟩) (first|(go_at_call 144;(with_reducible refine(qui HI HXd HN D4).mono ?_);rintro e w3 ⟨rfl,hb⟩;have HX:=zl HXd hb;obtain⟨q0,q1,q2,q3,q4,q5,q6⟩:=HBX.out.keep HX.out HZ.out;rw[HE3.out]at q3;have f0:=HF0.out _ HX.out;obtain⟨r0,r1⟩:=HR2.out _ HX.out;clear hb))
   go_wp2_with fail
   go_ret;exact⟨by rw[SL.out];rfl,HW.out.trans (HX.out.mono (Xk HZ.out))⟩
 ·have SL:=zH (qm2 (c:=c) (m:=m) (Nat.le_of_not_lt hnl));go_wp2_with fail
  go_ret;exact⟨by rw[SL.out];rfl,HW.out⟩
theorem qjk:(Tryz.prog.info? 23).map (fun i=>(i.zero,i.size,i.bytes))=some (some (.slice none 0 0),1,24):=by kernel_rfl
theorem qcw(w:World)(vs:List Value)(T:TypeId):zx (w.alloc (.cells vs.toArray T)) (w.heap.size+1) (some ⟨w.heap.size,0,none⟩) vs:=fun j u hu=>
 ⟨_,rfl,by show w.heap.size<_;omega,by
  rw[show Addr.add ⟨w.heap.size,0,none⟩ j=⟨w.heap.size,j,none⟩by unfold Addr.add;split<;>simp[*]];exact qa w vs T j u hu⟩
theorem qr7(w:World)(v:Value)(T:TypeId):(w.alloc (.cells #[v] T)).ownsRow w.heap.size T 1 (.slice (some ⟨w.heap.size,0,none⟩) 1 1) 1 [v]:=
 ⟨rfl,.inr ⟨w.heap.size,1,#[v],rfl,zn _,XO _ _,zn _,by unfold maxLen;omega,rfl,rfl⟩⟩
def JZ(w:World)(B:Nat)(ls:List (List (Int×Int)))(vs:List Value):Prop:=
 vs.length=ls.length∧∀(i:Nat) l,ls[i]? =some l→∃A c,vs[i]? =some (.slice A l.length c)∧zd zh 2 w B A c l
theorem JZ.nil{w:World}{B:Nat}:JZ w B [] []:=⟨rfl,fun i l h=>by simp at h⟩
theorem JZ.snoc{w:World}{B:Nat}{ls:List (List (Int×Int))}{vs:List Value}{l:List (Int×Int)}{A:Option Addr}{c:Nat}(h:JZ w B ls vs)(hl:zd zh 2 w B A c l):JZ w B (ls++[l]) (vs++[.slice A l.length c]):=
 ⟨by simp[h.1],fun i l' hi=>by
  rcases Xj i ls.length with g|g
  ·rw[XJ g]at hi;obtain⟨A',c',h1,h2⟩:=h.2 i l' hi;exact⟨A',c',by rw[XJ (by rw[h.1];exact g)];exact h1,h2⟩
  ·rw[XM g]at hi;have e:i - ls.length=0:=by
    rcases Wo (i - ls.length)with e|e
    ·exact e
    ·rw[Xu (by simp;omega)]at hi;cases hi
   rw[e]at hi;simp at hi;subst hi;exact⟨A,c,by rw[XM (by rw[h.1];exact g),h.1,e];rfl,hl⟩⟩
theorem qnw{w0 w:World}{B e:Nat}{v:Value}{ls:List (List (Int×Int))}{vs:List Value}(hL:JZ w0 w0.heap.size ls vs)(hb:Below w0.heap.size w0 w)(ho:w.ownsRow B e 1 v vs.length vs):
  ∃A c,v= .slice A ls.length c∧zd (zG zh 2) 1 w w.heap.size A c ls:=by
 obtain⟨A,c,rfl,hl⟩:=q05 ho;have hlc:vs.length≤c∧c≤9223372036854775807:=by
  rcases kq ho with⟨h1,h2⟩|⟨g,c',h1,h2,h3⟩
  ·injection h1 with _ _ h1;omega
  ·injection h1 with _ _ h1;omega
 refine⟨A,c,by rw[hL.1],by rw[←hL.1];exact hlc.1,hlc.2,fun i l hi=> ?_⟩;obtain⟨A',c',h1,h2⟩:=hL.2 i l hi;obtain⟨ad,h3,h4,h5⟩:=hl i _ h1;exact⟨ad,h3,h4,A',c',by rw[Xq];exact h5,(h2.below_to zh.keeps hb (zn _)).keep' zh.keeps hb.size (fun _ _=>rfl)⟩
def q0z(m:za):Bool:=m.methods.all fun x=>vY x.ret m.classes.length
def kG(m:za)(k:Nat):List (List (Int×Int)):=m.statics::(m.classes.map (·.fields)++(m.methods.take k).flatMap fun x=> [x.args,x.locals])
def Qu(m:za)(k:Nat):List (List (Int×Int)):=m.statics::(m.classes.take k).map (·.fields)
def Jt(m:za):Bool:=q0z m&& YS (kG m m.methods.length) m.classes.length
theorem qsm(m:za):Qu m 0=[m.statics]:=by simp[Qu]
theorem qsn{m:za}{k:Nat}(h:k<m.classes.length):Qu m (k+1)=Qu m k++[m.classes[k].fields]:=by
 unfold Qu;rw[XA,Xc h,XX,List.cons_append];rfl
theorem quy{m:za}{k:Nat}(h:m.classes.length≤k):Qu m k=kG m 0:=by
 unfold Qu kG;rw[XH h];simp
theorem qh6{m:za}{k:Nat}(h:k<m.methods.length):kG m (k+1)=(kG m k++[m.methods[k].args])++[m.methods[k].locals]:=by
 unfold kG;rw[XA,Xc h,Wc];simp
theorem qlu{m:za}{k:Nat}(h:m.methods.length≤k):kG m k=kG m m.methods.length:=by
 unfold kG;rw[XH h,XH (zn _)]
theorem qux(m:za)(k:Nat):(Qu m k).length≤1+k:=by
 unfold Qu;rw[XL,Xi];have:=List.length_take_le k m.classes;omega
theorem qlt(m:za)(k:Nat):(kG m k).length≤1+m.classes.length+2*k:=by
 unfold kG;rw[XL,Xt,Xi,List.length_flatMap];have:=List.length_take_le k m.methods;have:(List.map (fun x:zf=> [x.args,x.locals].length) (List.take k m.methods)).sum=2*(List.take k m.methods).length:=by
  induction List.take k m.methods with
  |nil=>rfl
  |cons a l ih=>simp at ih⊢;omega
 omega
def q2x(m:za)(w1:World)(ls:List (List (Int×Int)))(v:Value)(wr:World):Prop:=
 ∃vs,JZ w1 w1.heap.size ls vs∧wr.ownsRow w1.heap.size 23 1 v vs.length vs
theorem q8m{t:Int×Int}{c:Int}{w:World}{r:Bool}(HR:Hid (vY t c=r)):Calls Tryz.prog 126 #[zA t.1 t.2,.int .i64 c] w fun e w'=>e= .returned (.bool r)∧Below w.heap.size w w':=by
 have H:=qg1 t.1 t.2 c w;rw[show((t.1,t.2):Int×Int)=t from rfl,HR.out]at H;exact H
set_option maxHeartbeats 3200000 in
theorem qhc(m:za)(h:zg)(w:World)(H:zi w w.heap.size h m)(hn:m.classes.length≤1000)(hm:m.methods.length≤1000):
  Calls Tryz.prog 83 #[zk h m] w fun e w'=>e= .returned (.bool (Jt m))∧Below w.heap.size w w':=by
 obtain⟨i0,hi,hz0,hz1,hz2⟩:=qQ qjk;have HW:=zH (jz (w:=w) (h:=h) (m:=m));have HBX:=zH (zX w h m);have HZ:Hid (w.heap.size<(w.alloc (zo h m)).heap.size):=zH (by simp);have HI:=zH (H.now HW.out);have l0:=H.classes.le;have l0c:=H.classes.cap;have l3:=H.methods.le;have l3c:=H.methods.cap;clear H;go_enter Tryz.func83,Tryz.ntmps83;go_upto_region 1 with fail
 generalize w.alloc (zo h m)=w1 at*
 obtain⟨q0,q1,q2,q3,q4,q5,q6⟩:=HBX.out;go_upto_region 3 with fail
 have HX:=zH ((zb w1.heap.size w1).alloc (zn _) (.cells ([.slice h.A1 m.statics.length h.c1]:List Value).toArray 23));have HR0:Hid (q2x m w1 (Qu m 0) (.slice (some ⟨w1.heap.size,0,none⟩) 1 1) (w1.alloc (.cells ([.slice h.A1 m.statics.length h.c1]:List Value).toArray 23))):=zH ⟨[.slice h.A1 m.statics.length h.c1],by rw[qsm];exact JZ.nil.snoc HI.out.statics,qr7 _ _ _⟩;clear q0 q1 q2 q3 q4 q5 q6;obtain⟨q0,q1,q2,q3,q4,q5,q6⟩:=HBX.out.keep HX.out HZ.out;go_wp2_with fail
 go_loopw [4,18] (fun v i wr=>∃k:Nat,k≤m.classes.length∧i= .int .i64 k∧Hid (q2x m w1 (Qu m k) v wr)∧Hid (Below w1.heap.size w1 wr)) (fun _ i _=>m.classes.length - (intOf i).toNat)
 case atStart=>exact⟨0,by omega,rfl,HR0,HX⟩
 case round=>
  clear HX q0 q1 q2 q3 q4 q5 q6 HR0;obtain⟨k,hk,rfl,HR,HX⟩:=hrel;obtain⟨q0,q1,q2,q3,q4,q5,q6⟩:=HBX.out.keep HX.out HZ.out;by_cases hlt:k<m.classes.length
  ·obtain⟨ad,e0,hab,hc⟩:=HI.out.classes.row.at_ hlt;have HSU:=zH (qsn hlt);have hll:=qux m k;generalize m.classes[k]=c at*
   obtain⟨s0,⟨A1,k1,s1,hs1⟩,⟨A2,k2,s2,hs2⟩,sr⟩:=hc;have hP:(ad.add (k*3)).block<w1.heap.size:=by rw[zp];exact hab
   have s0:=(HX.out.cell hP).trans s0;have s1:=(HX.out.cell (p:=zc (ad.add (k*3)) 1) hP).trans s1;have s2:=(HX.out.cell (p:=zc (ad.add (k*3)) 2) hP).trans s2;have HFL:=zH hs1;rw[e0];obtain⟨vs,hla,ho⟩:=HR.out;have hvl:vs.length≤1+k:=by rw[hla.1];exact hll
   have HLA:=zH hla;have HO:=zH ho;clear hla ho HR e0 hs1 hs2 hP hab hll;go_upto_region 6 with fail
   have HB3:=zH (qa wr [.int .i64 c.sup,.slice A1 c.fields.length k1,.slice A2 c.slots.length k2] 81);have HX:=zH (HX.out.alloc HX.out.size (.cells ([.int .i64 c.sup,.slice A1 c.fields.length k1,.slice A2 c.slots.length k2]:List Value).toArray 81));have HO3:Hid ((wr.alloc (.cells ([.int .i64 c.sup,.slice A1 c.fields.length k1,.slice A2 c.slots.length k2]:List Value).toArray 81)).ownsRow w1.heap.size 23 1 u4 vs.length vs):=zH (HO.out.alloc _);have HB3:Hid (zW (wr.alloc (.cells ([.int .i64 c.sup,.slice A1 c.fields.length k1,.slice A2 c.slots.length k2]:List Value).toArray 81)) wr.heap.size [.int .i64 c.sup,.slice A1 c.fields.length k1,.slice A2 c.slots.length k2]):=HB3;have HZ3:Hid (wr.heap.size<(wr.alloc (.cells ([.int .i64 c.sup,.slice A1 c.fields.length k1,.slice A2 c.slots.length k2]:List Value).toArray 81)).heap.size):=zH (by simp);clear q0 q1 q2 q3 q4 q5 q6 s0 s1 s2;generalize wr.alloc (.cells ([.int .i64 c.sup,.slice A1 c.fields.length k1,.slice A2 c.slots.length k2]:List Value).toArray 81)=w3 at*
   generalize wr.heap.size=gb at*
   obtain⟨b0,b1,b2⟩:=zM HB3.out;have hsz3:=HX.out.size;go_wp2_with(at_builtin;refine vt rfl _ _ 183 rfl w1.heap.size 23 i0 (.slice none 0 0) 1 24 Tryz.underlying183 hi hz0 hz1 hz2 rfl (by decide) _ vs.length vs rfl (HO3.out.alloc _) (some ⟨w3.heap.size,0,none⟩) 1 1 (w3.heap.size+1) [.slice A1 c.fields.length k1] rfl rfl (qcw w3 [.slice A1 c.fields.length k1] 23) ?c1 (by unfold maxLen;omega) (by omega) ?c2 ?_)
   case c1=>intro u hu;simp at hu;first|(subst hu;rfl)|(rcases hu with rfl|rfl<;>rfl)
   case c2=>simp;omega
   intro v6 w6 hown hgrow;have HX6:=zH (qN ((HX.out.alloc HX.out.size (.cells ([.slice A1 c.fields.length k1]:List Value).toArray 23))) (HO3.out.alloc _) (by simp;omega) hgrow);have HO6:=zH hown;clear hown hgrow;go_wp2_with fail
   go_roundw;case rel=>exact⟨k+1,by omega,by go_num,zH ⟨vs++[.slice A1 c.fields.length k1],by rw[HSU.out];exact HLA.out.snoc HFL.out,by rw[Xt];exact HO6.out⟩,HX6⟩
   case measure=>simp[intOf];omega
  ·have HR2:Hid (q2x m w1 (kG m 0) u4 wr):=zH (by rw[←quy (m:=m) (k:=k) (by omega)];exact HR.out);clear HR;go_wp2_with fail
   go_loopw [4,31] (fun v i wr=>∃k:Nat,k≤m.methods.length∧i= .int .i64 k∧Hid (∀x ∈m.methods.take k,vY x.ret m.classes.length=true)∧Hid (q2x m w1 (kG m k) v wr)∧Hid (Below w1.heap.size w1 wr)) (fun _ i _=>m.methods.length - (intOf i).toNat)
   case atStart=>exact⟨0,by omega,rfl,zH (by simp),HR2,HX⟩
   case round=>
    clear HX q0 q1 q2 q3 q4 q5 q6 HR2 hlt hk;obtain⟨k,hk,rfl,HN,HR,HX⟩:=hrel;obtain⟨q0,q1,q2,q3,q4,q5,q6⟩:=HBX.out.keep HX.out HZ.out;by_cases hlt:k<m.methods.length
    ·obtain⟨ad,e0,hab,hc⟩:=HI.out.methods.row.at_ hlt;have HSU:=zH (qh6 hlt);have hll:=qlt m k;have HNO:=zH (fun g:(fun x:zf=>vY x.ret m.classes.length) m.methods[k]=false=>(vb hlt g:q0z m=false));have HYE:=zH (fun g:(fun x:zf=>vY x.ret m.classes.length) m.methods[k]=true=>jT hlt HN.out g);generalize m.methods[k]=x at*
     obtain⟨⟨A0,k0,s0,hs0⟩,⟨A1,k1,s1,hs1⟩,s2,s3,⟨A4,k4,s4,hs4⟩,s5,s6,⟨A7,k7,s7,hs7⟩⟩:=hc;have hP:(ad.add (k*8)).block<w1.heap.size:=by rw[zp];exact hab
     have s0:=(HX.out.cell hP).trans s0;have s1:=(HX.out.cell (p:=zc (ad.add (k*8)) 1) hP).trans s1;have s2:=(HX.out.cell (p:=zc (ad.add (k*8)) 2) hP).trans s2;have s3:=(HX.out.cell (p:=zc (ad.add (k*8)) 3) hP).trans s3;have s4:=(HX.out.cell (p:=zc (ad.add (k*8)) 4) hP).trans s4;have s5:=(HX.out.cell (p:=zc (ad.add (k*8)) 5) hP).trans s5;have s6:=(HX.out.cell (p:=zc (ad.add (k*8)) 6) hP).trans s6;have s7:=(HX.out.cell (p:=zc (ad.add (k*8)) 7) hP).trans s7;have HFA:=zH hs0;have HFL:=zH hs1;rw[e0];obtain⟨vs,hla,ho⟩:=HR.out;have hvl:vs.length≤1+m.classes.length+2*k:=by rw[hla.1];exact hll
     have HLA:=zH hla;have HO:=zH ho;obtain⟨g,hg⟩:∃g,vY x.ret m.classes.length=g:=⟨_,rfl⟩
     have G:=zH hg;clear hg hla ho HR e0 hs0 hs1 hs4 hs7 hP hab hll;go_upto_region 11 with fail
     have HB3:=zH (qa wr [.slice A0 x.args.length k0,.slice A1 x.locals.length k1,.int .i64 x.ret.1,.int .i64 x.ret.2,.slice A4 x.code.length k4,.int .i64 x.depth,.int .i64 x.pot,.slice A7 x.phi.length k7] 53);have HX:=zH (HX.out.alloc HX.out.size (.cells ([.slice A0 x.args.length k0,.slice A1 x.locals.length k1,.int .i64 x.ret.1,.int .i64 x.ret.2,.slice A4 x.code.length k4,.int .i64 x.depth,.int .i64 x.pot,.slice A7 x.phi.length k7]:List Value).toArray 53));have HO3:Hid ((wr.alloc (.cells ([.slice A0 x.args.length k0,.slice A1 x.locals.length k1,.int .i64 x.ret.1,.int .i64 x.ret.2,.slice A4 x.code.length k4,.int .i64 x.depth,.int .i64 x.pot,.slice A7 x.phi.length k7]:List Value).toArray 53)).ownsRow w1.heap.size 23 1 u4 vs.length vs):=zH (HO.out.alloc _);have HB3:Hid (zW (wr.alloc (.cells ([.slice A0 x.args.length k0,.slice A1 x.locals.length k1,.int .i64 x.ret.1,.int .i64 x.ret.2,.slice A4 x.code.length k4,.int .i64 x.depth,.int .i64 x.pot,.slice A7 x.phi.length k7]:List Value).toArray 53)) wr.heap.size [.slice A0 x.args.length k0,.slice A1 x.locals.length k1,.int .i64 x.ret.1,.int .i64 x.ret.2,.slice A4 x.code.length k4,.int .i64 x.depth,.int .i64 x.pot,.slice A7 x.phi.length k7]):=HB3;have HZ3:Hid (wr.heap.size<(wr.alloc (.cells ([.slice A0 x.args.length k0,.slice A1 x.locals.length k1,.int .i64 x.ret.1,.int .i64 x.ret.2,.slice A4 x.code.length k4,.int .i64 x.depth,.int .i64 x.pot,.slice A7 x.phi.length k7]:List Value).toArray 53)).heap.size):=zH (by simp);clear q0 q1 q2 q3 q4 q5 q6 s0 s1 s2 s3 s4 s5 s6 s7;generalize wr.alloc (.cells ([.slice A0 x.args.length k0,.slice A1 x.locals.length k1,.int .i64 x.ret.1,.int .i64 x.ret.2,.slice A4 x.code.length k4,.int .i64 x.depth,.int .i64 x.pot,.slice A7 x.phi.length k7]:List Value).toArray 53)=w3 at*
     generalize wr.heap.size=gb at*
     obtain⟨b0,b1,b2,b3,b4,b5,b6,b7⟩:=ck8 HB3.out;cases g
     ·have E2:=zH (show Jt m=false by unfold Jt;rw[show q0z m=false from HNO.out G.out];rfl);go_wp2_with(go_at_call 126;(with_reducible refine(q8m G).mono ?_);rintro e w5 ⟨rfl,hb⟩;have HX:=zl HX hb;have HB5:=zH (HB3.out.keep hb HZ3.out);have HO5:=zH (qo HO3.out hb (zZ HO3.out));obtain⟨b0,b1,b2,b3,b4,b5,b6,b7⟩:=ck8 HB5.out;clear hb)
      go_ret;exact⟨by rw[E2.out];rfl,HW.out.trans (HX.out.mono (Xk HZ.out))⟩
     ·have HY:=zH (HYE.out G.out);go_upto_region 13 with(go_at_call 126;(with_reducible refine(q8m G).mono ?_);rintro e w5 ⟨rfl,hb⟩;have HX:=zl HX hb;have HB5:=zH (HB3.out.keep hb HZ3.out);have HO5:=zH (qo HO3.out hb (zZ HO3.out));obtain⟨b0,b1,b2,b3,b4,b5,b6,b7⟩:=ck8 HB5.out;clear hb)
      clear HB3 HO3 HZ3;have HO3:=HO5;clear HO5 HB5;generalize w5=w3 at*
      have hsz3:=HX.out.size;go_wp2_with(at_builtin;refine vt rfl _ _ 183 rfl w1.heap.size 23 i0 (.slice none 0 0) 1 24 Tryz.underlying183 hi hz0 hz1 hz2 rfl (by decide) _ vs.length vs rfl (HO3.out.alloc _) (some ⟨w3.heap.size,0,none⟩) 2 2 (w3.heap.size+1) [.slice A0 x.args.length k0,.slice A1 x.locals.length k1] rfl rfl (qcw w3 [.slice A0 x.args.length k0,.slice A1 x.locals.length k1] 23) ?c1 (by unfold maxLen;omega) (by omega) ?c2 ?_)
      case c1=>intro u hu;simp at hu;first|(subst hu;rfl)|(rcases hu with rfl|rfl<;>rfl)
      case c2=>simp;omega
      intro v6 w6 hown hgrow;have HX6:=zH (qN ((HX.out.alloc HX.out.size (.cells ([.slice A0 x.args.length k0,.slice A1 x.locals.length k1]:List Value).toArray 23))) (HO3.out.alloc _) (by simp;omega) hgrow);have HO6:=zH hown;clear hown hgrow;go_wp2_with fail
      go_roundw;case rel=>exact⟨k+1,by omega,by go_num,HY,zH ⟨vs++[.slice A0 x.args.length k0,.slice A1 x.locals.length k1],by rw[HSU.out];have h2:=(HLA.out.snoc HFA.out).snoc HFL.out;simpa only[X8,List.cons_append,List.nil_append]using h2,by rw[Xt];exact HO6.out⟩,HX6⟩
      case measure=>simp[intOf];omega
    ·have HRA:=zH (show q0z m=true from vc (l:=m.methods) HN.out (by omega));obtain⟨vs,hla,ho⟩:=HR.out;rw[qlu (m:=m) (k:=k) (by omega)]at hla;obtain⟨A9,k9,rfl,hs9⟩:=qnw hla HX.out ho;have HS9:=zH hs9;have E2:=zH (show Jt m=YS (kG m m.methods.length) m.classes.length by unfold Jt;rw[HRA.out];rfl);clear hla ho hs9 HR;go_wp2_with(go_at_call 127;(with_reducible refine(qfg _ _ _ _ _ _ (zn _) HS9.out).mono ?_);rintro e w5 ⟨rfl,hb⟩;have HX:=zl HX hb;clear hb)
     go_ret;exact⟨by rw[E2.out];rfl,HW.out.trans (HX.out.mono (Xk HZ.out))⟩
theorem oN_ext{L M:List Int}(hl:L.length=M.length)(h:∀v,v<L.length→oN L v=oN M v):L=M:=by
 refine Wl hl fun v h1 h2=> ?_;have:=h v h1
 rwa [Zb h1,Zb h2]at this
theorem q2i(n:Nat)(a b most:Int):(jE n a b most).1.length=n:=by simp[jE]
theorem qti{n v:Nat}{a b most:Int}(h:v<n):oN (jE n a b most).1 v=(if(v:Int)=b then 1 else 0) - (if(v:Int)=a then 1 else 0):=by
 rw[Zb (by rw[q2i];exact h)];simp[jE]
theorem qlc(n:Nat)(a b most:Int):vz (vz (List.replicate n 0) b 1) a (-1)=(jE n a b most).1:=by
 have hl:(vz (vz (List.replicate n (0:Int)) b 1) a (-1)).length=n:=by rw[q2m,q2m,Wq]
 refine oN_ext (by rw[hl,q2i]) fun v hv=> ?_;rw[hl]at hv;rw[qti hv,qe8 (by rw[q2m,Wq];exact hv),qe8 (by rw[Wq];exact hv)];have:oN (List.replicate n (0:Int)) v=0:=by unfold oN;rw[Wn,Xb hv];rfl
 rw[this];split<;>split<;>omega
theorem qmi{L:List Int}{k:Int}(h:∀x ∈L,-k≤x∧x≤k)(hk:0≤k){i b:Int}(hb: -1≤b∧b≤1):∀x ∈vz L i b,-(k+1)≤x∧x≤k+1:=fun x hx=>by
 unfold vz at hx;split at hx
 ·rename_i h0;rcases Wf hx with q|q
  ·have:=h x q;omega
  ·have h1:=h _ (Xd (show i.toNat<L.length by omega));rw[←Zb (show i.toNat<L.length by omega)]at h1;omega
 ·have:=h x hx;omega
set_option maxHeartbeats 3200000 in
theorem qiw(n:Nat)(a b most:Int)(w:World)(hn:n≤1000):
  Calls Tryz.prog 92 #[.int .i64 n,.int .i64 b,.int .i64 a,.int .i64 most] w fun e w'=>∃g,e= .returned (.agg #[.slice (some ⟨g,0,none⟩) n n,.int .i64 most])∧w.heap.size≤g∧zY w' g (jE n a b most).1∧Below w.heap.size w w':=by
 obtain⟨i1,hi1,hy0,hy1,hy2⟩:=qQ vD;have HR:=zH (qlc n a b most);have HNL:=zH hn;go_enter Tryz.func92,Tryz.ntmps92;go_upto_region 1 with fail
 have HW1:=zH ((zb w.heap.size w).alloc (zn _) (.cells #[.slice none 0 0,.int .i64 0] 101));have HQ1:=zH (ze.new w [.slice none 0 0,.int .i64 0] 101);have HZ1:Hid (w.heap.size<(w.alloc (.cells #[.slice none 0 0,.int .i64 0] 101)).heap.size):=zH (by simp);generalize w.alloc (.cells #[.slice none 0 0,.int .i64 0] 101)=w1 at*
 go_upto_region 2 with(at_make;refine wpList_make_full _ rfl _ _ 26 rfl w1.heap.size 3 i1 (.int .i64 0) 1 Tryz.underlying26 hi1 hy0 hy1 .i64 .i64 _ _ n rfl rfl rfl rfl (by rw[hy2];omega) (by unfold maxLen;omega) (zn _) ?_;intro w3 hown hgrow;have HO3:=zH hown;have HB3:=zH ((zb w1.heap.size w1).grown hgrow (zn _) (fun k hk=>by cases hk));clear hown hgrow)
 have hN3:zY w3 w1.heap.size (List.replicate n 0):=by
  have h1:=Yx HO3.out;rw[JX (v:= .int .i64 0) rfl]at h1;unfold zY;rw[List.map_replicate];exact h1
 obtain⟨g,hg⟩:∃g,w1.heap.size=g:=⟨_,rfl⟩
 rw[hg]at hN3;have hgl:=ze.lt hN3;have hwg:w.heap.size<g:=by have:=HZ1.out;omega
 have hB4:Below g w1 (w3.alloc (.cells #[.slice (some ⟨g,0,none⟩) n n,.int .i64 most] 101)):=by
  have:=HB3.out;rw[hg]at this;exact this.alloc (by omega) _
 have HN4:Hid (zY (w3.alloc (.cells #[.slice (some ⟨g,0,none⟩) n n,.int .i64 most] 101)) g (List.replicate n 0)):=zH (hN3.keep ((zb _ _).alloc (zn _) _));have HQ4:=zH (ze.new w3 [.slice (some ⟨g,0,none⟩) n n,.int .i64 most] 101);simp only[hg];have HQ4:Hid (ze (w3.alloc (.cells #[.slice (some ⟨g,0,none⟩) n n,.int .i64 most] 101)) w3.heap.size [.slice (some ⟨g,0,none⟩) n n,.int .i64 most] 101):=HQ4;obtain⟨q,hq⟩:∃q,w3.heap.size=q:=⟨_,rfl⟩
 rw[hq]at HQ4 hgl;simp only[hq];generalize w3.alloc (.cells #[.slice (some ⟨g,0,none⟩) n n,.int .i64 most] 101)=w4 at*
 have HB4:=zH hB4;have HL0:Hid ((List.replicate n (0:Int)).length=n):=zH (Wq ..);have hs0:∀x ∈List.replicate n (0:Int),-0≤x∧x≤0:=fun x hx=>by have:=(Wm.mp hx).2;omega
 have hs1:=qmi hs0 (XR 0) (i:=b) (b:=1) (by omega);have HS0:Hid (∀x ∈List.replicate n (0:Int),-1000≤x∧x≤1000):=zH (fun x hx=>by have:=hs0 x hx;omega);have HS1:Hid (∀x ∈vz (List.replicate n (0:Int)) b 1,-1000≤x∧x≤1000):=zH (fun x hx=>by have:=hs1 x hx;omega);have HL1:Hid ((vz (List.replicate n (0:Int)) b 1).length=n):=zH (by rw[q2m];exact HL0.out);obtain⟨L1,hL1⟩:∃L,vz (List.replicate n (0:Int)) b 1=L:=⟨_,rfl⟩
 rw[hL1]at HS1 HL1 HR;have HA1:=zH hL1;generalize List.replicate n (0:Int)=L0 at*
 clear hs0 hs1 hN3 hB4 HO3 HB3 hL1;have q0:=HQ4.out.cells 0 _ rfl;go_upto_region 3 with(go_at_call 146;(with_reducible refine(qdz HL0 HN4 HNL HS0 (zH ⟨by omega,by omega⟩) HA1).mono ?_);rintro e w5 ⟨rfl,hn5,hg5⟩;have HN5:=zH hn5;have HQ5:Hid (ze w5 q [.slice (some ⟨g,0,none⟩) n n,.int .i64 most] 101):=zH (q8d HQ4.out hg5 (by omega));have HB5:=zH (HB4.out.grown hg5 (Xk (ze.lt HN4.out)) (fun k e=>by cases e;exact zn _));clear hn5 hg5)
 clear q0;have q0:=HQ5.out.cells 0 _ rfl;go_upto_region 4 with(go_at_call 146;(with_reducible refine(qdz HL1 HN5 HNL HS1 (zH ⟨by omega,by omega⟩) HR).mono ?_);rintro e w6 ⟨rfl,hn6,hg6⟩;have HN6:=zH hn6;have HQ6:Hid (ze w6 q [.slice (some ⟨g,0,none⟩) n n,.int .i64 most] 101):=zH (q8d HQ5.out hg6 (by omega));have HB6:=zH (HB5.out.grown hg6 (Xk (ze.lt HN5.out)) (fun k e=>by cases e;exact zn _));clear hn6 hg6)
 clear q0;have q0:=HQ6.out.cells 0 _ rfl;have q1:=HQ6.out.cells 1 _ rfl;have HR6:Hid (ze w6 w.heap.size [.slice none 0 0,.int .i64 0] 101):=zH (HQ1.out.keep HB6.out (by omega));have r0:=HR6.out.cells 0 _ rfl;have r1:=HR6.out.cells 1 _ rfl;have f0:=HR6.out.free 0;have f1:=HR6.out.free 1;go_wp2_with fail
 have hW7:ze ((w6.setCell ⟨w.heap.size,0,none⟩ (.slice (some ⟨g,0,none⟩) n n)).setCell ⟨w.heap.size,1,none⟩ (.int .i64 most)) w.heap.size [.slice (some ⟨g,0,none⟩) n n,.int .i64 most] 101:=(HR6.out.set 0 _).set 1 _;have p0:=hW7.cells 0 _ rfl;have p1:=hW7.cells 1 _ rfl;refine Xn (v:= .agg #[.slice (some ⟨g,0,none⟩) n n,.int .i64 most]) (by simp[results,Tryz.results92,go_sem,p0,p1]) rfl ⟨g,rfl,by omega,?_,?_⟩
 ·exact((Below.heap_setCell _ _ _ g (by show g≠w.heap.size;omega)).trans (Below.heap_setCell _ _ _ g (by show g≠w.heap.size;omega))).trans HN6.out
 ·exact((HW1.out.trans (HB6.out.mono (by omega))).setCell (p:=⟨w.heap.size,0,none⟩) (zn _) _).setCell (p:=⟨w.heap.size,1,none⟩) (zn _) _
theorem qau{n:Nat}{a b most:Int}{L:List Int}{w:World}(hn:Hid (n≤1000))(hr:Hid (jE n a b most=(L,most))):
  Calls Tryz.prog 92 #[.int .i64 n,.int .i64 b,.int .i64 a,.int .i64 most] w fun e w'=>∃g,e= .returned (.agg #[.slice (some ⟨g,0,none⟩) n n,.int .i64 most])∧w.heap.size≤g∧zY w' g L∧Below w.heap.size w w':=by
 have H:=qiw n a b most w hn.out;rw[hr.out]at H;exact H
end Go.Proofs.YtcmiljnbmgkdnaaGreat
