import Derived.Test.YtdbfllajopcccaaGreatFA17
import Derived.Test.YtdbfllajopcccaaGreatFA10
import Derived.Test.YtdbfllajopcccaaGreatFA14
import Derived.Test.YtdbfllajopcccaaGreatFA12
import Derived.Test.YtdbfllajopcccaaGreatFA13
import Derived.Test.YtdbfllajopcccaaGreatFA06
namespace Go.Proofs.YtdbfllajopcccaaGreat
set_option maxRecDepth 100000
set_option linter.unusedVariables false
set_option linter.unusedSimpArgs false
open Go.ChangeShapes Go.WideShapes Go.ChangeAt Go.RowKit
def ZY(m:za)(k:Nat):Bool:=(List.range k).all fun i=>match m.classes[i]? with
 |some x=>qo m (i:Int) x
 |none=>true
theorem qj9(m:za):ZY m 0=true:=rfl
theorem qja{m:za}{k:Nat}{x:qv}(hx:m.classes[k]? =some x):ZY m (k+1)=(ZY m k&& qo m (k:Int) x):=by
 unfold ZY;rw[List.range_succ,List.all_append];simp[hx]
theorem qcd{m:za}{k i:Nat}{x:qv}(h:ZY m k=true)(hi:i<k)(hx:m.classes[i]? =some x):qo m (i:Int) x=true:=by
 have:=List.all_eq_true.mp h i (List.mem_range.mpr hi);rw[hx]at this;exact this
theorem qnb{m:za}{k n:Nat}(h:ZY m k=false)(hk:k≤n):ZY m n=false:=by
 rw[Bool.eq_false_iff]at h⊢
 intro g;refine h (List.all_eq_true.mpr fun i hi=> ?_);exact List.all_eq_true.mp g i (List.mem_range.mpr (Nat.lt_of_lt_of_le (List.mem_range.mp hi) hk))
theorem q73{m:za}{c:Int}{ab:List Int}:∀(l:List Int) (k:Nat),kJ m c ab k l=true→∀s ∈l,∃j,vr m c ab j s=true
 | [],_,_,s,hs=>by simp at hs
 |a::r,k,h,s,hs=>by
  simp only[kJ,Bool.and_eq_true]at h;rcases List.mem_cons.mp hs with rfl|hs
  ·exact⟨k,h.1⟩
  ·exact q73 r (k+1) h.2 s hs
theorem qe7{m:za}{c:Int}{ab:List Int}{k:Nat}{s:Int}(h:vr m c ab k s=true):∃f,m.methods[s.toNat]? =some f∧0<f.args.length:=by
 unfold vr at h;cases hf:m.methods[s.toNat]? with
 |none=>rw[hf]at h;simp at h
 |some f=>
  rw[hf]at h;cases ha:f.args with
  |nil=>dsimp only at h;rw[ha]at h;simp at h
  |cons t r=>exact⟨f,rfl,by rw[ha];simp⟩
theorem qb2{m:za}{c:Int}{x:qv}(h:qo m c x=true):∀s ∈x.slots,∃f,m.methods[s.toNat]? =some f∧0<f.args.length:=fun s hs=>by
 unfold qo at h;simp only[Bool.and_eq_true]at h;obtain⟨j,hj⟩:=q73 _ _ h.2.2.2.2 s hs;exact qe7 hj
theorem qpm{m:za}{i:Nat}{x:qv}(h:ZY m i=true)(hs:x.sup<(i:Int)):∀q ∈QR m x,∃g,m.methods[q.toNat]? =some g∧0<g.args.length:=fun q hq=>by
 unfold QR at hq;split at hq
 ·rename_i h0;cases hy:m.classes[x.sup.toNat]? with
  |none=>rw[hy]at hq;simp at hq
  |some y=>
   rw[hy]at hq;exact qb2 (qcd h (show x.sup.toNat<i by omega) hy) q hq
 ·simp at hq
def Zo{α:Type}(p:α→Bool)(l:List α)(k:Nat):Bool:=(l.take k).all p
theorem q1n{α:Type}(p:α→Bool)(l:List α):Zo p l 0=true:=by simp[Zo]
theorem q1o{α:Type}{p:α→Bool}{l:List α}{k:Nat}(hk:k<l.length):Zo p l (k+1)=(Zo p l k&& p l[k]):=by
 unfold Zo;rw[List.take_add_one,List.getElem?_eq_getElem hk,List.all_append];simp
theorem q25{α:Type}{p:α→Bool}{l:List α}{k:Nat}(hk:l.length≤k):Zo p l k=l.all p:=by
 unfold Zo;rw[List.take_of_length_le hk]
theorem q06{α:Type}{p:α→Bool}{l:List α}{k:Nat}(h:Zo p l k=false):l.all p=false:=by
 rw[Bool.eq_false_iff]at h⊢
 intro g;exact h (List.all_eq_true.mpr fun x hx=>List.all_eq_true.mp g x (List.mem_of_mem_take hx))
def kP(m:za)(n:Int):Bool:=match m.methods[n.toNat]? with
 |none=>false
 |some f=>(decide (f.ret.1=1)||decide (f.ret.1=5))&& f.args.all fun t=>decide (t.1=1)
theorem qit{m:za}{n:Nat}(h:m.methods.length≤n):kP m (n:Int)=false:=by
 unfold kP;rw[Int.toNat_natCast,List.getElem?_eq_none h]
theorem qis{m:za}{n:Nat}{f:ze}(h:m.methods[n]? =some f):kP m (n:Int)=((decide (f.ret.1=1)||decide (f.ret.1=5))&& f.args.all fun t=>decide (t.1=1)):=by
 unfold kP;rw[Int.toNat_natCast,h]
def okB(m:za):Bool:=Zi m.statics m.classes.length&& (ZY m m.classes.length&& (m.methods.all (qJ m)&& m.entries.all (kP m)))
def QK(m:za):Int:=if qC m=false then 2 else if okB m=true then 0 else 3
theorem qbj{m:za}(h:qC m=false):QK m=2:=if_pos h
theorem qbi{m:za}(h:qC m=true)(g:okB m=true):QK m=0:=by unfold QK;rw[if_neg (by rw[h];decide),if_pos g]
theorem Vs{m:za}(h:qC m=true)(g:okB m=false):QK m=3:=by unfold QK;rw[if_neg (by rw[h];decide),if_neg (by rw[g];decide)]
structure zP(m:za):Prop where
 fits:qd8 m
 st:∀t ∈m.statics,jL t.1 t.2 m.classes.length=true
 cls:∀(i:Nat) c,m.classes[i]? =some c→qo m (i:Int) c=true
 mth:∀x ∈m.methods,qJ m x=true
theorem YB{m:za}(h:QK m=0):zP m:=by
 have hf:qC m=true:=by
  cases hf:qC m with
  |true=>rfl
  |false=>rw[qbj hf]at h;cases h
 have ho:okB m=true:=by
  cases ho:okB m with
  |true=>rfl
  |false=>rw[Vs hf ho]at h;cases h
 unfold okB at ho;simp only[Bool.and_eq_true]at ho;refine⟨qd1 hf,fun t ht=>List.all_eq_true.mp ho.1 t ht,fun i c hc=>qcd ho.2.1 ?_ hc,fun x hx=>List.all_eq_true.mp ho.2.2.1 x hx⟩;rcases Nat.lt_or_ge i m.classes.length with g|g
 ·exact g
 ·rw[List.getElem?_eq_none g]at hc;cases hc
structure q6r(m:za)(x:ze):Prop where
 fits:q6f x
 at_:∀t ∈x.args,jL t.1 t.2 m.classes.length=true
 lt:∀t ∈x.locals,jL t.1 t.2 m.classes.length=true
 rt:x.ret=(5,0)∨jL x.ret.1 x.ret.2 m.classes.length=true
 cp:0<x.code.length
 ph:x.phi.length=x.code.length
 all:x.args.length+x.locals.length≤8
 co:∀i ∈x.code,zQ m x i.1 i.2.1 i.2.2=true
theorem zP.method{m:za}(h:zP m){x:ze}(hx:x ∈m.methods):q6r m x:=by
 have h1:=h.mth x hx;unfold qJ at h1;simp only[Bool.and_eq_true,decide_eq_true_eq]at h1;obtain⟨a1,a2,a3,a4,a5,a6,a7⟩:=h1;unfold retB at a3;refine⟨h.fits.mt x hx,fun t ht=>List.all_eq_true.mp a1 t ht,fun t ht=>List.all_eq_true.mp a2 t ht,?_,by omega,by omega,by omega,fun i hi=>List.all_eq_true.mp a7 i hi⟩;rw[Bool.or_eq_true,decide_eq_true_eq]at a3;exact a3
theorem QD{w:World}{g:Nat}{n:Int}(hg:g<w.heap.size)(h:w.cell? ⟨g,0,none⟩=some (.int .i64 n)):zd zo 1 w w.heap.size (some ⟨g,0,none⟩) 1 [n]:=
 ⟨zn _,by omega,fun i t hi=>by
  match i,hi with
  |0,hi=>simp at hi;subst hi;exact⟨_,rfl,hg,h⟩
  |i+1,hi=>simp at hi⟩
def vN(m:za)(b:Int)(l:List Int):List Int:=l.filterMap fun k=>vb m.classes k b
def qj(m:za)(op a b:Int):List Int:=if op=31 then [a]else if op=32 then vN m b (Ze m.classes a)else []
theorem q72{m:za}{b:Int}{l:List Int}{k:Nat}(hk:k<l.length):vN m b (l.take (k+1))=vN m b (l.take k)++(vb m.classes l[k] b).toList:=by
 unfold vN;rw[List.take_add_one,List.getElem?_eq_getElem hk,List.filterMap_append];congr 1
theorem q3h(m:za)(b:Int)(l:List Int):(vN m b l).length≤l.length:=List.length_filterMap_le _ _
theorem Va(h:zl)(m:za)(op a b:Int)(w:World):Zl ((w.alloc (zq h m)).alloc (.cells #[.int .i64 op,.int .i64 a,.int .i64 b] 45)) w.heap.size h m∧
  zT ((w.alloc (zq h m)).alloc (.cells #[.int .i64 op,.int .i64 a,.int .i64 b] 45)) (w.heap.size+1) [.int .i64 op,.int .i64 a,.int .i64 b]∧
  Below w.heap.size w ((w.alloc (zq h m)).alloc (.cells #[.int .i64 op,.int .i64 a,.int .i64 b] 45))∧((w.alloc (zq h m)).alloc (.cells #[.int .i64 op,.int .i64 a,.int .i64 b] 45)).heap.size=w.heap.size+2:=by
 have z0:(w.alloc (zq h m)).heap.size=w.heap.size+1:=by simp
 obtain⟨c1,z1,b1⟩:=km z0 [.int .i64 op,.int .i64 a,.int .i64 b] 45;exact⟨(qf w h m).keep b1 (by omega),c1,((zb w.heap.size w).alloc (zn _) (zq h m)).trans (b1.mono (by omega)),z1⟩
set_option maxHeartbeats 1600000 in
theorem qds(m:za)(op a b:Int)(n31:¬op=31)(n32:¬op=32)(h:zl)(w:World):
  Calls Tryz.prog 29 #[zr h m,zF op a b] w (vO (qj m op a b) w):=by
 have e0:qj m op a b=[]:=by unfold qj;rw[if_neg n31,if_neg n32]
 rw[e0];clear e0;obtain⟨hq,hc,hb,hz⟩:=Va h m op a b w;have HW:=zH hb;have HC:=zH hc;have HZ:=zH hz;clear hb hq hc hz;go_enter Tryz.func29,Tryz.ntmps29;go_upto_region 1 with fail
 generalize(w.alloc (zq h m)).alloc (.cells #[.int .i64 op,.int .i64 a,.int .i64 b] 45)=w1 at*
 have j0:=(HC.out.keep ((zb w1.heap.size w1).alloc (zn _) (.cells #[] 3)) (by have:=HZ.out;omega)) 0 _ rfl;go_wp2_with fail
 go_ret;exact⟨_,rfl,jI (JB w1 _) HW.out.size,HW.out.trans (((zb w1.heap.size w1).alloc (zn _) _).mono HW.out.size)⟩
set_option maxHeartbeats 1600000 in
theorem qdt(m:za)(a b:Int)(h:zl)(w:World):
  Calls Tryz.prog 29 #[zr h m,zF 31 a b] w (vO (qj m 31 a b) w):=by
 rw[show qj m 31 a b=[]++[a]from rfl];obtain⟨i0,hi,hz0,hz1,hz2⟩:=info_parts kp;obtain⟨hq,hc,hb,hz⟩:=Va h m 31 a b w;have HW:=zH hb;have HC:=zH hc;have HZ:=zH hz;clear hb hq hc hz;go_enter Tryz.func29,Tryz.ntmps29;go_upto_region 1 with fail
 generalize(w.alloc (zq h m)).alloc (.cells #[.int .i64 31,.int .i64 a,.int .i64 b] 45)=w1 at*
 go_upto_region 2 with fail
 have HO:=zH (JB w1 3);have HX:=zH ((zb w1.heap.size w1).alloc (zn _) (.cells #[] 3));generalize w1.alloc (.cells #[] 3)=w2 at*
 have hlt:w.heap.size+1<w1.heap.size:=by have:=HZ.out;omega
 have HL:=zH hlt;clear hlt;have j0:=(HC.out.keep HX.out HL.out) 0 _ rfl;have j1:=(HC.out.keep HX.out HL.out) 1 _ rfl;have hsz:=HX.out.size;go_wp2_with(first
  |(at_builtin;refine wpList_append_own _ rfl _ _ 26 rfl w1.heap.size 3 i0 (.int .i64 0) 1 8 Tryz.underlying26 hi hz0 hz1 hz2 rfl (by decide) _ _ _ rfl (HO.out.alloc _) ⟨_,0,none⟩ 1 1 [.int .i64 a] rfl rfl (Vu _ _) (Vo _) (by unfold maxLen;omega) (by omega) (by simp;omega) ?_;intro v' w3 hown' hgrow _;have hR:=Jt (pre:=[]) HO.out hsz HX.out hown' hgrow;have HO3:=zH hR.1;have HX3:=zH hR.2;have j0:=(HC.out.keep HX3.out HL.out) 0 _ rfl;clear hown' hgrow hR))
 go_ret;exact⟨_,rfl,jI HO3.out HW.out.size,HW.out.trans (HX3.out.mono HW.out.size)⟩
theorem q4z{m:za}{x:ze}{a b:Int}{op:Int}(ho:op=3∨op=4)(h:zQ m x op a b=true):a<x.args.length+x.locals.length:=by
 rcases ho with rfl|rfl<;>simpa[zQ]using h
theorem JZ{m:za}{x:ze}{a b:Int}{op:Int}(ho:op=29∨op=30)(h:zQ m x op a b=true):a<m.statics.length:=by
 rcases ho with rfl|rfl<;>simpa[zQ]using h
theorem q7z{m:za}{x:ze}{a b:Int}{op:Int}(ho:op=22∨op=34)(h:zQ m x op a b=true):a<m.classes.length:=by
 rcases ho with rfl|rfl<;>simpa[zQ]using h
theorem Yd{m:za}{x:ze}{a b:Int}{op:Int}(ho:op=27∨op=28)(h:zQ m x op a b=true):a<m.classes.length∧b<(qS m.classes a).length:=by
 rcases ho with rfl|rfl<;>simpa[zQ]using h
theorem q96{m:za}{x:ze}{a b:Int}{op:Int}(ho:op=18∨op=19)(h:zQ m x op a b=true):a<x.code.length:=by
 rcases ho with rfl|rfl<;>simpa[zQ]using h
theorem Yg{m:za}{x:ze}{a b:Int}(h:zQ m x 31 a b=true):a<m.methods.length:=by simpa[zQ]using h
theorem Yf{m:za}{x:ze}{a b:Int}(hm:zP m)(a0:0≤a)(b0:0≤b)(h:zQ m x 32 a b=true):
  a<m.classes.length∧∃(k:Nat) (y:ze),vb m.classes a b=some (k:Int)∧m.methods[k]? =some y∧0<y.args.length:=by
 simp[zQ]at h;obtain⟨h1,h2⟩:=h;obtain⟨i,rfl⟩:=Int.eq_ofNat_of_zero_le a0;obtain⟨j,rfl⟩:=Int.eq_ofNat_of_zero_le b0;have hi:i<m.classes.length:=by omega
 unfold q0j at h2;rw[Int.toNat_natCast,List.getElem?_eq_getElem hi]at h2;dsimp only at h2;have hj:j<m.classes[i].slots.length:=by omega
 have hc:=hm.cls i _ (List.getElem?_eq_getElem hi);obtain⟨y,hy,ha⟩:=qb2 hc _ (List.getElem_mem hj);have hs:=((hm.fits.ct _ (List.getElem_mem hi)).st _ (List.getElem_mem hj)).1;obtain⟨k,hk⟩:=Int.eq_ofNat_of_zero_le hs;refine⟨h1,k,y,by rw[q3u hi hj,hk],?_,ha⟩;rw[hk,Int.toNat_natCast]at hy;exact hy
theorem q0a(m:za)(x:ze)(f:Nat)(op a b:Int)(h:zl)(w:World)(H:zp w w.heap.size h m)(hm:zP m)(hg:m.methods[f]? =some x)(hi:jb op a b=true)(hn:zQ m x op a b=true):
  Calls Tryz.prog 32 #[zr h m,.int .i64 f,zF op a b] w (jR (zE m x op a b) (zB m x op a b) w):=by
 obtain⟨o0,o1,a0,a1,b0,b1⟩:=Za hi;have hx:=hm.method (List.mem_of_getElem? hg);have hal:x.args.length≤1048576:=by have:=hx.fits.al;omega
 have hll:x.locals.length≤1048576:=by have:=hx.fits.ll;omega
 have hcl:m.classes.length≤1000:=by have:=hm.fits.cl;omega
 have hfl:∀c ∈m.classes,c.fields.length≤1000:=fun c hc=>by have:=(hm.fits.ct c hc).fl;omega
 by_cases hmath:7≤op∧op≤17
 ·exact qkj m x f op a b hmath.1 hmath.2 h w H
 ·have hc:op=1∨op=2∨op=3∨op=4∨op=5∨op=6∨op=18∨op=19∨op=20∨op=21∨op=22∨op=23∨op=24∨op=25∨op=26∨op=27∨op=28∨op=29∨op=30∨op=31∨op=32∨op=33∨op=34:=by omega
  rcases hc with rfl|rfl|rfl|rfl|rfl|rfl|rfl|rfl|rfl|rfl|rfl|rfl|rfl|rfl|rfl|rfl|rfl|rfl|rfl|rfl|rfl|rfl|rfl
  ·exact rule_1 m x f a b h w
  ·exact rule_2 m x f a b h w
  ·exact rule_3 m x f a b hg hal hll (by omega) h w H
  ·exact rule_4 m x f a b hg hal hll (by omega) h w H
  ·exact rule_5 m x f a b h w
  ·exact rule_6 m x f a b h w
  ·exact qqj m x f a b h w
  ·exact qqi m x f a b h w
  ·exact qqh m x f a b h w
  ·exact qqg m x f a b h w
  ·exact qqf m x f a b h w
  ·exact qqe m x f a b h w
  ·exact qqd m x f a b h w
  ·exact qqc m x f a b h w
  ·exact qqb m x f a b h w
  ·obtain⟨k,rfl⟩:=Int.eq_ofNat_of_zero_le b0;exact qqa m x f a k (by have:=(Yd (op:=27) (by omega) hn).2;omega) hcl hfl h w H
  ·obtain⟨k,rfl⟩:=Int.eq_ofNat_of_zero_le b0;exact qq9 m x f a k (by have:=(Yd (op:=28) (by omega) hn).2;omega) hcl hfl h w H
  ·obtain⟨j,rfl⟩:=Int.eq_ofNat_of_zero_le a0;exact qq8 m x f j b (by have:=JZ (op:=29) (by omega) hn;omega) h w H
  ·obtain⟨j,rfl⟩:=Int.eq_ofNat_of_zero_le a0;exact qq7 m x f j b (by have:=JZ (op:=30) (by omega) hn;omega) h w H
  ·obtain⟨j,rfl⟩:=Int.eq_ofNat_of_zero_le a0;exact qq6 m x f j b (by have:=Yg hn;omega) h w H
  ·obtain⟨_,k,y,hs,hy,hp⟩:=Yf hm a0 b0 hn;exact qq5 m x f a b k hs y hy hp (by have:=(hm.method (List.mem_of_getElem? hy)).fits.al;omega) h w H
  ·exact qq4 m x f a b hg hal hll h w H
  ·exact qq3 m x f a b h w
def q6p(r:ZZ)(w:World)(e:Ending)(w':World):Prop:=
 ∃A c A' c',e= .returned (.tuple #[.slice A r.after.length c,.slice A' r.next.length c',.int .i64 r.err])∧zd zi 2 w' w'.heap.size A c r.after∧zd zo 1 w' w'.heap.size A' c' r.next∧Below w.heap.size w w'
def Zf(r:ZZ)(w:World)(e:Ending)(w':World):Prop:=
 ∃A c A' c',e= .returned (.tuple #[.slice A r.after.length c,.slice A' r.next.length c',.int .i64 r.err])∧zd zi 2 w' w'.heap.size A c r.after∧zd zo 1 w' w'.heap.size A' c' r.next∧Below w.heap.size w w'∧∀ad,A'=some ad→w.heap.size≤ad.block
theorem Zf.is{r:ZZ}{w:World}{e:Ending}{w':World}(h:Zf r w e w'):q6p r w e w':=by
 obtain⟨A,c,A',c',h1,h2,h3,h4,_⟩:=h;exact⟨A,c,A',c',h1,h2,h3,h4⟩
theorem JM{w:World}{N:Nat}(h:w.heap.size≤N):∀ad,(some ⟨N,0,none⟩:Option Addr)=some ad→w.heap.size≤ad.block:=fun ad e=>by
 injection e with e;subst e;exact h
theorem kw(n:Int){w w':World}(hb:Below w.heap.size w w'):Zf (qL n) w (.returned (.tuple #[.slice none 0 0,.slice none 0 0,.int .i64 n])) w':=
 ⟨none,0,none,0,rfl,⟨zn _,by omega,fun i t hi=>by simp[qL]at hi⟩,⟨zn _,by omega,fun i t hi=>by simp[qL]at hi⟩,hb,fun ad e=>by cases e⟩
def vk(sup:List Int)(op:Int)(TK GV:List (Int×Int))(nl:List Int)(st:List (Int×Int)):ZZ:=
 if st.length<TK.length∨8<st.length - TK.length+GV.length then qL 4 else
 if((st.drop (st.length - TK.length)).zip TK).all (fun p=>qk sup op p.1 p.2)=true then⟨st.take (st.length - TK.length)++GV,nl,0⟩else qL 4
theorem q4g{m:za}{x:ze}{pc op a b n:Int}{st:List (Int×Int)}{r:List Int}(e:qE pc op a=n::r)(h:(x.code.length:Int)≤n):qr m x pc op a b st=qL 4:=by
 unfold qr;rw[e,if_pos (by simpa using h)]
theorem q4h{m:za}{x:ze}{pc a b:Int}:qr m x pc 6 a b []=qL 4:=by
 unfold qr;split
 ·rfl
 ·rw[if_pos (Or.inl ⟨rfl,rfl⟩)]
theorem QS{m:za}{x:ze}{pc op a b:Int}{st:List (Int×Int)}(h:¬(qE pc op a).head?.any (fun n=>decide ((x.code.length:Int)≤n))=true)(h6:¬(op=6∧st=[])):
  qr m x pc op a b st=vk (zw m.classes) op (qO m x op a b st) (ju m x op a b st) (qE pc op a) st:=by
 unfold qr vk;rw[if_neg h];by_cases g:st.length<(qO m x op a b st).length∨8<st.length - (qO m x op a b st).length+(ju m x op a b st).length
 ·rw[if_pos (Or.inr g),if_pos g]
 ·rw[if_neg g,if_neg (fun q=>q.elim h6 g)]
theorem Qx(w:World)(T:TypeId)(vs us:List Value):zT ((w.alloc (.cells vs.toArray T)).alloc (.cells us.toArray T)).drew w.heap.size vs∧zT ((w.alloc (.cells vs.toArray T)).alloc (.cells us.toArray T)).drew (w.heap.size+1) us∧
  Below w.heap.size w ((w.alloc (.cells vs.toArray T)).alloc (.cells us.toArray T)).drew∧w.heap.size<((w.alloc (.cells vs.toArray T)).alloc (.cells us.toArray T)).drew.heap.size∧w.heap.size+1<((w.alloc (.cells vs.toArray T)).alloc (.cells us.toArray T)).drew.heap.size:=by
 have z1:(w.alloc (.cells vs.toArray T)).heap.size=w.heap.size+1:=by simp
 have z2:((w.alloc (.cells vs.toArray T)).alloc (.cells us.toArray T)).drew.heap.size=w.heap.size+2:=by simp
 have hb:Below (w.heap.size+1) (w.alloc (.cells vs.toArray T)) ((w.alloc (.cells vs.toArray T)).alloc (.cells us.toArray T)).drew:=((zb _ _).alloc (by omega) _).drew;have h2:=qd (w.alloc (.cells vs.toArray T)) us T;rw[z1]at h2;exact⟨(qd w vs T).keep hb (by omega),h2,((zb _ _).alloc (zn _) _).trans (hb.mono (by omega)),by omega,by omega⟩
theorem q8a(x:ze):(jd x).length≤2:=by
 unfold jd;split
 ·exact Nat.zero_le _
 ·exact Nat.le_succ _
theorem qra{c:Prop}[Decidable c]{A B:List (Int×Int)}(hA:A.length≤2)(hB:B.length≤2):(if c then A else B).length≤2:=by
 by_cases g:c
 ·rw[if_pos g];exact hA
 ·rw[if_neg g];exact hB
theorem VZ(m:za)(x:ze)(op a b:Int):(zB m x op a b).length≤2:=by
 unfold zB
 repeat' apply qra
 all_goals first|exact q8a _|exact Nat.zero_le _|exact Nat.le_succ _|exact zn _
theorem qg0{sup:List Int}{op:Int}{TK GV:List (Int×Int)}{nl:List Int}{st:List (Int×Int)}(h:st.length<TK.length):vk sup op TK GV nl st=qL 4:=by unfold vk;rw[if_pos (Or.inl h)]
theorem qjz{sup:List Int}{op:Int}{TK GV:List (Int×Int)}{nl:List Int}{st:List (Int×Int)}{d:Nat}(hd:st.length - TK.length=d)(h:8<d+GV.length):vk sup op TK GV nl st=qL 4:=by unfold vk;rw[hd,if_pos (Or.inr h)]
theorem q0d{sup:List Int}{op:Int}{TK GV:List (Int×Int)}{nl:List Int}{st:List (Int×Int)}{d:Nat}(hd:st.length - TK.length=d)(h0:¬st.length<TK.length)(h:¬8<d+GV.length):
  vk sup op TK GV nl st=if((st.drop d).zip TK).all (fun p=>qk sup op p.1 p.2)=true then⟨st.take d++GV,nl,0⟩else qL 4:=by unfold vk;rw[hd,if_neg (fun q=>q.elim h0 h)]
theorem qpa{sup:List Int}{op t0 t1 u1:Int}:qk sup op (t0,t1) (0,u1)=true:=by unfold qk;rw[if_pos rfl]
theorem jQ{sup:List Int}{op t0 t1 u1:Int}:qk sup op (t0,t1) (4,u1)=(jO t0&& !(decide (op=34)&& decide (t0=2))):=by unfold qk;rw[if_neg (show ¬(4:Int)=0 by decide),if_pos rfl]
theorem qp9{sup:List Int}{op t0 t1 u0 u1:Int}(h0:¬u0=0)(h4:¬u0=4):qk sup op (t0,t1) (u0,u1)=zG sup t0 t1 u0 u1:=by unfold qk;rw[if_neg h0,if_neg h4]
theorem QH{t0 t1:Int}{w:World}{r:Bool}(HR:Hid (jO t0=r)):Calls Tryz.prog 33 #[zO t0 t1] w fun e w'=>e= .returned (.bool r)∧Below w.heap.size w w':=by
 have H:=q8u t0 t1 w;rw[HR.out]at H;exact H
theorem q8q{m:za}{h:zl}{x y t0 t1:Int}{w0 w:World}{r:Bool}(HI:Hid (zp w0 w0.heap.size h m))(HX:Hid (Below w0.heap.size w0 w))(HN:Hid (m.classes.length≤1000))(HR:Hid (zG (zw m.classes) x y t0 t1=r)):
  Calls Tryz.prog 34 #[.slice h.A0 m.classes.length h.c0,zO x y,zO t0 t1] w fun e w'=>e= .returned (.bool r)∧Below w.heap.size w w':=by
 have H:=QU (zw m.classes) x y t0 t1 h.A0 h.c0 w.heap.size w (by rw[vZ];have:=HN.out;omega) (zn _) (Jv (HI.out.now HX.out).classes.row);rw[HR.out,vZ]at H;exact H
theorem qoe(w:World)(v:Value)(T:TypeId):(w.alloc (.cells #[v] T)).ownsRow w.heap.size T 1 (.slice (some ⟨w.heap.size,0,none⟩) 1 1) 1 [v]:=
 ⟨rfl,.inr ⟨w.heap.size,1,#[v],rfl,zn _,heap_alloc_new _ _,zn _,by unfold maxLen;omega,rfl,rfl⟩⟩
theorem qr1{w:World}{B e:Nat}{v:Value}{p q:Int}(h:w.ownsRow B e 1 v ([p]++[q]).length (([p]++[q]).map (Value.int .i64))):
  ∃g c,v= .slice (some ⟨g,0,none⟩) 2 c∧zd zo 1 w w.heap.size (some ⟨g,0,none⟩) c [p,q]∧w.cell? ⟨g,0,none⟩=some (.int .i64 p):=by
 rcases jA h with⟨_,hn⟩|⟨g,c,hv,_⟩
 ·cases hn
 ·obtain⟨A,c',hv',hl,g1,g2⟩:=kM h;rw[hv]at hv';injection hv' with e1 e2 e3;subst e1 e3;have hS:zd zo 1 w w.heap.size (some ⟨g,0,none⟩) c [p,q]:=⟨g1,g2,fun i x hi=>by
   obtain⟨ad,e,hb,hc⟩:=hl i (.int .i64 x) (by rw[List.getElem?_map];show Option.map _ ([p,q][i]?)=_;rw[hi];rfl);exact⟨ad,e,hb,by rw[Nat.mul_one];exact hc⟩⟩
  refine⟨g,c,hv,hS,?_⟩;obtain⟨ad,e,hb,hc⟩:=hl 0 (.int .i64 p) rfl;injection e with e;subst e;simpa[Addr.add]using hc
theorem qoq(w:World)(A:Option Addr)(B:Nat):zd zo 1 w B A 0 []:=⟨zn _,by omega,fun i t hi=>by simp at hi⟩
end Go.Proofs.YtdbfllajopcccaaGreat
