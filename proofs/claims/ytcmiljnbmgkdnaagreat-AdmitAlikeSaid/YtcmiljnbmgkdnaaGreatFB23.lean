import Derived.Test.YtcmiljnbmgkdnaaGreatFB22
import Derived.Test.YtcmiljnbmgkdnaaGreatFB13
import Derived.Test.YtcmiljnbmgkdnaaGreatFB12
import Derived.Test.YtcmiljnbmgkdnaaGreatFB06
import Derived.Maps.AppendAt
namespace Go.Proofs.YtcmiljnbmgkdnaaGreat
set_option maxRecDepth 100000
set_option linter.unusedVariables false
set_option linter.unusedSimpArgs false
open Go.ChangeShapes Go.WideShapes Go.ChangeAt Go.RowKit
def Jd(m:za)(k:Nat):Bool:=(List.range k).all fun i=>match m.classes[i]? with
 |some x=>kV m (i:Int) x
 |none=>true
theorem qdw{m:za}{k i:Nat}{x:zJ}(h:Jd m k=true)(hi:i<k)(hx:m.classes[i]? =some x):kV m (i:Int) x=true:=by
 have:=Xx.mp h i (XR.mpr hi);rw[hx]at this;exact this
theorem q47{m:za}{c:Int}{ab:List Int}:∀(l:List Int) (k:Nat),kt m c ab k l=true→∀s ∈l,∃j,kZ m c ab j s=true
 | [],_,_,s,hs=>by simp at hs
 |a::r,k,h,s,hs=>by
  simp only[kt,Xr]at h;rcases XA.mp hs with rfl|hs
  ·exact⟨k,h.1⟩
  ·exact q47 r (k+1) h.2 s hs
theorem q88{m:za}{c:Int}{ab:List Int}{k:Nat}{s:Int}(h:kZ m c ab k s=true):∃f,m.methods[s.toNat]? =some f∧0<f.args.length:=by
 unfold kZ at h;cases hf:m.methods[s.toNat]? with
 |none=>rw[hf]at h;simp at h
 |some f=>
  rw[hf]at h;cases ha:f.args with
  |nil=>dsimp only at h;rw[ha]at h;simp at h
  |cons t r=>exact⟨f,rfl,by rw[ha];simp⟩
theorem qqi{m:za}{c:Int}{x:zJ}(h:kV m c x=true):∀s ∈x.slots,∃f,m.methods[s.toNat]? =some f∧0<f.args.length:=fun s hs=>by
 unfold kV at h;simp only[Xr]at h;obtain⟨j,hj⟩:=q47 _ _ h.2.2.2.2 s hs;exact q88 hj
def Ye(m:za)(n:Int):Bool:=match m.methods[n.toNat]? with
 |none=>false
 |some f=>(decide (f.ret.1=1)||decide (f.ret.1=5))&& f.args.all fun t=>decide (t.1=1)
def okB(m:za):Bool:=vw m.statics m.classes.length&& (Jd m m.classes.length&& (m.methods.all (Vc m)&& m.entries.all (Ye m)))
def qR(m:za):Int:=if zK m=false then 2 else if okB m=true then 0 else 3
theorem q3c{m:za}(h:zK m=false):qR m=2:=Xb h
theorem q67{m:za}(h:zK m=true)(g:okB m=true):qR m=0:=by unfold qR;rw[Xa (by rw[h];decide),Xb g]
theorem q6r{m:za}(h:zK m=true)(g:okB m=false):qR m=3:=by unfold qR;rw[Xa (by rw[h];decide),Xa (by rw[g];decide)]
structure zN(m:za):Prop where
 fits:q79 m
 st:∀t ∈m.statics,jn t.1 t.2 m.classes.length=true
 cls:∀(i:Nat) c,m.classes[i]? =some c→kV m (i:Int) c=true
 mth:∀x ∈m.methods,Vc m x=true
theorem q1y{m:za}(h:qR m=0):zN m:=by
 have hf:zK m=true:=by
  cases hf:zK m with
  |true=>rfl
  |false=>rw[q3c hf]at h;cases h
 have ho:okB m=true:=by
  cases ho:okB m with
  |true=>rfl
  |false=>rw[q6r hf ho]at h;cases h
 unfold okB at ho;simp only[Xr]at ho;refine⟨Yb hf,fun t ht=>Xx.mp ho.1 t ht,fun i c hc=>qdw ho.2.1 ?_ hc,fun x hx=>Xx.mp ho.2.2.1 x hx⟩;rcases Xk i m.classes.length with g|g
 ·exact g
 ·rw[Xv g]at hc;cases hc
structure q7q(m:za)(x:zh):Prop where
 fits:q3q x
 at_:∀t ∈x.args,jn t.1 t.2 m.classes.length=true
 lt:∀t ∈x.locals,jn t.1 t.2 m.classes.length=true
 rt:x.ret=(5,0)∨jn x.ret.1 x.ret.2 m.classes.length=true
 cp:0<x.code.length
 ph:x.phi.length=x.code.length
 all:x.args.length+x.locals.length≤8
 co:∀i ∈x.code,zZ m x i.1 i.2.1 i.2.2=true
theorem zN.method{m:za}(h:zN m){x:zh}(hx:x ∈m.methods):q7q m x:=by
 have h1:=h.mth x hx;unfold Vc at h1;simp only[Xr,Xt]at h1;obtain⟨a1,a2,a3,a4,a5,a6,a7⟩:=h1;unfold kL at a3;refine⟨h.fits.mt x hx,fun t ht=>Xx.mp a1 t ht,fun t ht=>Xx.mp a2 t ht,?_,by omega,by omega,by omega,fun i hi=>Xx.mp a7 i hi⟩;rw[Wf,Xt]at a3;exact a3
theorem q3m{w:World}{g:Nat}{n:Int}(hg:g<w.heap.size)(h:w.cell? ⟨g,0,none⟩=some (.int .i64 n)):ze zl 1 w w.heap.size (some ⟨g,0,none⟩) 1 [n]:=
 ⟨zn _,by omega,fun i t hi=>by
  match i,hi with
  |0,hi=>simp at hi;subst hi;exact⟨_,rfl,hg,h⟩
  |i+1,hi=>simp at hi⟩
def vJ(m:za)(b:Int)(l:List Int):List Int:=l.filterMap fun k=>jP m.classes k b
def qp(m:za)(op a b:Int):List Int:=if op=31 then [a]else if op=32 then vJ m b (Zr m.classes a)else []
theorem q85{m:za}{b:Int}{l:List Int}{k:Nat}(hk:k<l.length):vJ m b (l.take (k+1))=vJ m b (l.take k)++(jP m.classes l[k] b).toList:=by
 unfold vJ;rw[XH,Xc hk,List.filterMap_append];congr 1
theorem q4g(m:za)(b:Int)(l:List Int):(vJ m b l).length≤l.length:=List.length_filterMap_le _ _
theorem VK(h:zi)(m:za)(op a b:Int)(w:World):Zy ((w.alloc (zg h m)).alloc (.cells #[.int .i64 op,.int .i64 a,.int .i64 b] 55)) w.heap.size h m∧
  zW ((w.alloc (zg h m)).alloc (.cells #[.int .i64 op,.int .i64 a,.int .i64 b] 55)) (w.heap.size+1) [.int .i64 op,.int .i64 a,.int .i64 b]∧
  Below w.heap.size w ((w.alloc (zg h m)).alloc (.cells #[.int .i64 op,.int .i64 a,.int .i64 b] 55))∧((w.alloc (zg h m)).alloc (.cells #[.int .i64 op,.int .i64 a,.int .i64 b] 55)).heap.size=w.heap.size+2:=by
 have z0:(w.alloc (zg h m)).heap.size=w.heap.size+1:=by simp
 obtain⟨c1,z1,b1⟩:=Qs z0 [.int .i64 op,.int .i64 a,.int .i64 b] 55;exact⟨(ql w h m).keep b1 (by omega),c1,((zb w.heap.size w).alloc (zn _) (zg h m)).trans (b1.mono (by omega)),z1⟩
set_option maxHeartbeats 1600000 in
theorem qfr(m:za)(op a b:Int)(n31:¬op=31)(n32:¬op=32)(h:zi)(w:World):
  Calls Tryz.prog 47 #[zp h m,zF op a b] w (vl (qp m op a b) w):=by
 have e0:qp m op a b=[]:=by unfold qp;rw[Xa n31,Xa n32]
 rw[e0];clear e0;obtain⟨hq,hc,hb,hz⟩:=VK h m op a b w;have HW:=zH hb;have HC:=zH hc;have HZ:=zH hz;clear hb hq hc hz;go_enter Tryz.func47,Tryz.ntmps47;go_upto_region 1 with fail
 generalize(w.alloc (zg h m)).alloc (.cells #[.int .i64 op,.int .i64 a,.int .i64 b] 55)=w1 at*
 have j0:=(HC.out.keep ((zb w1.heap.size w1).alloc (zn _) (.cells #[] 3)) (by have:=HZ.out;omega)) 0 _ rfl;go_wp2_with fail
 go_ret;exact⟨_,rfl,ja (VN w1 _) HW.out.size,HW.out.trans (((zb w1.heap.size w1).alloc (zn _) _).mono HW.out.size)⟩
set_option maxHeartbeats 1600000 in
theorem qfs(m:za)(a b:Int)(h:zi)(w:World):
  Calls Tryz.prog 47 #[zp h m,zF 31 a b] w (vl (qp m 31 a b) w):=by
 rw[show qp m 31 a b=[]++[a]from rfl];obtain⟨i0,hi,hz0,hz1,hz2⟩:=info_parts vT;obtain⟨hq,hc,hb,hz⟩:=VK h m 31 a b w;have HW:=zH hb;have HC:=zH hc;have HZ:=zH hz;clear hb hq hc hz;go_enter Tryz.func47,Tryz.ntmps47;go_upto_region 1 with fail
 generalize(w.alloc (zg h m)).alloc (.cells #[.int .i64 31,.int .i64 a,.int .i64 b] 55)=w1 at*
 go_upto_region 2 with fail
 have HO:=zH (VN w1 3);have HX:=zH ((zb w1.heap.size w1).alloc (zn _) (.cells #[] 3));generalize w1.alloc (.cells #[] 3)=w2 at*
 have hlt:w.heap.size+1<w1.heap.size:=by have:=HZ.out;omega
 have HL:=zH hlt;clear hlt;have j0:=(HC.out.keep HX.out HL.out) 0 _ rfl;have j1:=(HC.out.keep HX.out HL.out) 1 _ rfl;have hsz:=HX.out.size;go_wp2_with(first
  |(at_builtin;refine wpList_append_own _ rfl _ _ 26 rfl w1.heap.size 3 i0 (.int .i64 0) 1 8 Tryz.underlying26 hi hz0 hz1 hz2 rfl (by decide) _ _ _ rfl (HO.out.alloc _) ⟨_,0,none⟩ 1 1 [.int .i64 a] rfl rfl (q1m _ _) (q1e _) (by unfold maxLen;omega) (by omega) (by simp;omega) ?_;intro v' w3 hown' hgrow _;have hR:=YD (pre:=[]) HO.out hsz HX.out hown' hgrow;have HO3:=zH hR.1;have HX3:=zH hR.2;have j0:=(HC.out.keep HX3.out HL.out) 0 _ rfl;clear hown' hgrow hR))
 go_ret;exact⟨_,rfl,ja HO3.out HW.out.size,HW.out.trans (HX3.out.mono HW.out.size)⟩
def jZ(m:za)(p g:Int):Int:=if(zw m g).pot>p then(zw m g).pot else p
def jb(m:za)(L:List Int):Int:=L.foldl (jZ m) 0
theorem qcy{m:za}{L:List Int}{k:Nat}(hk:k<L.length):jb m (L.take (k+1))=jZ m (jb m (L.take k)) L[k]:=by
 unfold jb;rw[XH,Xc hk,Wn];rfl
def kd(m:za)(op a b:Int):Int:=if op=22 then 1+(qh m.classes a).length else if op=23 then 1+a else jb m (qp m op a b)
theorem q5k{m:za}{x:zh}{a b:Int}{op:Int}(ho:op=3∨op=4)(h:zZ m x op a b=true):a<x.args.length+x.locals.length:=by
 rcases ho with rfl|rfl<;>simpa[zZ]using h
theorem q0q{m:za}{x:zh}{a b:Int}{op:Int}(ho:op=29∨op=30)(h:zZ m x op a b=true):a<m.statics.length:=by
 rcases ho with rfl|rfl<;>simpa[zZ]using h
theorem q8m{m:za}{x:zh}{a b:Int}{op:Int}(ho:op=22∨op=34)(h:zZ m x op a b=true):a<m.classes.length:=by
 rcases ho with rfl|rfl<;>simpa[zZ]using h
theorem q0s{m:za}{x:zh}{a b:Int}{op:Int}(ho:op=27∨op=28)(h:zZ m x op a b=true):a<m.classes.length∧b<(qh m.classes a).length:=by
 rcases ho with rfl|rfl<;>simpa[zZ]using h
theorem q9q{m:za}{x:zh}{a b:Int}{op:Int}(ho:op=18∨op=19)(h:zZ m x op a b=true):a<x.code.length:=by
 rcases ho with rfl|rfl<;>simpa[zZ]using h
theorem VI{m:za}{x:zh}{a b:Int}(h:zZ m x 31 a b=true):a<m.methods.length:=by simpa[zZ]using h
theorem VH{m:za}{x:zh}{a b:Int}(hm:zN m)(a0:0≤a)(b0:0≤b)(h:zZ m x 32 a b=true):
  a<m.classes.length∧∃(k:Nat) (y:zh),jP m.classes a b=some (k:Int)∧m.methods[k]? =some y∧0<y.args.length:=by
 simp[zZ]at h;obtain⟨h1,h2⟩:=h;obtain⟨i,rfl⟩:=Xq a0;obtain⟨j,rfl⟩:=Xq b0;have hi:i<m.classes.length:=by omega
 unfold q1p at h2;rw[Xi,Xc hi]at h2;dsimp only at h2;have hj:j<m.classes[i].slots.length:=by omega
 have hc:=hm.cls i _ (Xc hi);obtain⟨y,hy,ha⟩:=qqi hc _ (Xf hj);have hs:=((hm.fits.ct _ (Xf hi)).st _ (Xf hj)).1;obtain⟨k,hk⟩:=Xq hs;refine⟨h1,k,y,by rw[q4r hi hj,hk],?_,ha⟩;rw[hk,Xi]at hy;exact hy
def qfb(r:QK)(w:World)(e:Ending)(w':World):Prop:=
 ∃A c A' c',e= .returned (.tuple #[.slice A r.after.length c,.slice A' r.next.length c',.int .i64 r.err])∧ze zc 2 w' w'.heap.size A c r.after∧ze zl 1 w' w'.heap.size A' c' r.next∧Below w.heap.size w w'
def qex(r:QK)(w:World)(e:Ending)(w':World):Prop:=
 ∃A c A' c',e= .returned (.tuple #[.slice A r.after.length c,.slice A' r.next.length c',.int .i64 r.err])∧ze zc 2 w' w'.heap.size A c r.after∧ze zl 1 w' w'.heap.size A' c' r.next∧Below w.heap.size w w'∧∀ad,A'=some ad→w.heap.size≤ad.block
theorem qex.is{r:QK}{w:World}{e:Ending}{w':World}(h:qex r w e w'):qfb r w e w':=by
 obtain⟨A,c,A',c',h1,h2,h3,h4,_⟩:=h;exact⟨A,c,A',c',h1,h2,h3,h4⟩
def ku(sup:List Int)(op:Int)(TK GV:List (Int×Int))(nl:List Int)(st:List (Int×Int)):QK:=
 if st.length<TK.length∨8<st.length - TK.length+GV.length then jf 4 else
 if((st.drop (st.length - TK.length)).zip TK).all (fun p=>Zf sup op p.1 p.2)=true then⟨st.take (st.length - TK.length)++GV,nl,0⟩else jf 4
theorem qas{m:za}{x:zh}{pc a b:Int}:qX m x pc 6 a b []=jf 4:=by
 unfold qX;split
 ·rfl
 ·rw[Xb (Or.inl ⟨rfl,rfl⟩)]
theorem q2t{m:za}{x:zh}{pc op a b:Int}{st:List (Int×Int)}(h:¬(qU pc op a).head?.any (fun n=>decide ((x.code.length:Int)≤n))=true)(h6:¬(op=6∧st=[])):
  qX m x pc op a b st=ku (zz m.classes) op (takes m x op a b st) (kI m x op a b st) (qU pc op a) st:=by
 unfold qX ku;rw[Xa h];by_cases g:st.length<(takes m x op a b st).length∨8<st.length - (takes m x op a b st).length+(kI m x op a b st).length
 ·rw[Xb (Or.inr g),Xb g]
 ·rw[Xa g,Xa (fun q=>q.elim h6 g)]
theorem q8s(x:zh):(jO x).length≤2:=by
 unfold jO;split
 ·exact Xp _
 ·exact Nat.le_succ _
theorem quy{c:Prop}[Decidable c]{A B:List (Int×Int)}(hA:A.length≤2)(hB:B.length≤2):(if c then A else B).length≤2:=by
 by_cases g:c
 ·rw[Xb g];exact hA
 ·rw[Xa g];exact hB
theorem qkv(m:za)(x:zh)(op a b:Int):(jg m x op a b).length≤2:=by
 unfold jg
 repeat' apply quy
 all_goals first|exact q8s _|exact Xp _|exact Nat.le_succ _|exact zn _
def zG(sup:List Int)(s t:List (Int×Int)):Prop:=s.length=t.length∧∀(i:Nat) (h1:i<s.length) (h2:i<t.length),zA sup s[i].1 s[i].2 t[i].1 t[i].2=true
theorem qkg{sup:List Int}{k n k' n':Int}(h:zA sup k n k' n'=true)(g:kT k'=true):kT k=true:=by
 rw[jW]at h;unfold kT at g⊢
 rw[Xt]at g⊢
 omega
theorem qp4{sup:List Int}{k n k' n':Int}(h:zA sup k n k' n'=true)(g:k=2):k'=2:=by
 rw[jW]at h;omega
theorem qq1{sup:List Int}{op:Int}{a b u:Int×Int}(h:zA sup a.1 a.2 b.1 b.2=true)(g:Zf sup op b u=true):Zf sup op a u=true:=by
 unfold Zf at g⊢
 by_cases h0:u.1=0
 ·rw[Xb h0]
 rw[Xa h0]at g⊢
 by_cases h4:u.1=4
 ·rw[Xb h4]at g⊢
  simp only[Xr,Bool.not_eq_true',Bool.and_eq_false_iff,Wg]at g⊢
  exact⟨qkg h g.1,g.2.imp id (fun q r=>q (qp4 h r))⟩
 ·rw[Xa h4]at g⊢
  exact q4q h g
theorem zG.take{sup:List Int}{s t:List (Int×Int)}(h:zG sup s t)(d:Nat):zG sup (s.take d) (t.take d):=by
 refine⟨by rw[XO,XO,h.1],fun i h1 h2=> ?_⟩;rw[List.getElem_take,List.getElem_take];exact h.2 i _ _
theorem zG.append{sup:List Int}{s t u v:List (Int×Int)}(h:zG sup s t)(g:zG sup u v):zG sup (s++u) (t++v):=by
 refine⟨by rw[Xe,Xe,h.1,g.1],fun i h1 h2=> ?_⟩;by_cases q:i<s.length
 ·rw[List.getElem_append_left q,List.getElem_append_left (by rw[←h.1];exact q)];exact h.2 i _ _
 ·rw[List.getElem_append_right (by omega),List.getElem_append_right (by rw[←h.1];omega)];have e:i - t.length=i - s.length:=by rw[h.1]
  simp only[e];exact g.2 _ _ _
theorem qu3{sup:List Int}{op:Int}{s t TK:List (Int×Int)}(h:zG sup s t)(g:(t.zip TK).all (fun p=>Zf sup op p.1 p.2)=true):(s.zip TK).all (fun p=>Zf sup op p.1 p.2)=true:=by
 rw[Xx]at g⊢
 intro p hp;obtain⟨i,hi,rfl⟩:=Wl hp;rw[List.length_zip]at hi;have h1:i<s.length:=by omega
 have h2:i<t.length:=by rw[←h.1];exact h1
 have h3:i<TK.length:=by omega
 have hz:i<(t.zip TK).length:=by rw[List.length_zip];omega
 have q:=g _ (Xf hz);rw[List.getElem_zip]at q⊢
 exact qq1 (h.2 i h1 h2) q
theorem zG.drop{sup:List Int}{s t:List (Int×Int)}(h:zG sup s t)(d:Nat):zG sup (s.drop d) (t.drop d):=by
 refine⟨by rw[XT,XT,h.1],fun i h1 h2=> ?_⟩;rw[List.getElem_drop,List.getElem_drop];exact h.2 _ _ _
theorem qn7{sup:List Int}{op:Int}{TK GV GV' s t:List (Int×Int)}{nl:List Int}(h:zG sup s t)(hg:zG sup GV' GV)(e:(ku sup op TK GV nl t).err=0):
  (ku sup op TK GV' nl s).err=0∧(ku sup op TK GV' nl s).next=(ku sup op TK GV nl t).next∧zG sup (ku sup op TK GV' nl s).after (ku sup op TK GV nl t).after:=by
 by_cases g:t.length<TK.length∨8<t.length - TK.length+GV.length
 ·unfold ku at e;rw[Xb g]at e;exact absurd e (show ¬(4:Int)=0 by decide)
 by_cases q:((t.drop (t.length - TK.length)).zip TK).all (fun p=>Zf sup op p.1 p.2)=true
 ·have e1:ku sup op TK GV nl t=⟨t.take (t.length - TK.length)++GV,nl,0⟩:=by unfold ku;rw[Xa g,Xb q]
  have e2:ku sup op TK GV' nl s=⟨s.take (t.length - TK.length)++GV',nl,0⟩:=by
   unfold ku;rw[h.1,hg.1,Xa g,Xb (qu3 (h.drop _) q)]
  rw[e1,e2];exact⟨rfl,rfl,(h.take _).append hg⟩
 ·unfold ku at e;rw[Xa g,Xa q]at e;exact absurd e (show ¬(4:Int)=0 by decide)
theorem zG.nil_iff{sup:List Int}{s t:List (Int×Int)}(h:zG sup s t):s=[]↔t=[]:=by
 rw[←List.length_eq_zero_iff,←List.length_eq_zero_iff,h.1]
theorem zG.last{sup:List Int}{s t:List (Int×Int)}(h:zG sup s t)(hs:s≠ []):zA sup (s.getLast?.getD (0,0)).1 (s.getLast?.getD (0,0)).2 (t.getLast?.getD (0,0)).1 (t.getLast?.getD (0,0)).2=true:=by
 have h0:0<s.length:=List.length_pos_iff.mpr hs;have h1:s.length - 1<s.length:=by omega
 have h2:s.length - 1<t.length:=by rw[←h.1];exact h1
 rw[List.getLast?_eq_getElem?,List.getLast?_eq_getElem?,←h.1,Xc h1,Xc h2];exact h.2 _ _ _
theorem zG.self{sup:List Int}{s:List (Int×Int)}(h:∀t ∈s,zA sup t.1 t.2 t.1 t.2=true):zG sup s s:=⟨rfl,fun _ h1 _=>h _ (Xf h1)⟩
theorem qil{m:za}{x:zh}{op a b:Int}{s t:List (Int×Int)}{sup:List Int}(h:zG sup s t):takes m x op a b s=takes m x op a b t:=by
 unfold takes;by_cases hs:s=[]
 ·rw[hs,h.nil_iff.mp hs]
 ·have ht:t≠ []:=fun e=>hs (h.nil_iff.mpr e);by_cases h6:op=6
  ·rw[Xb ⟨h6,hs⟩,Xb ⟨h6,ht⟩]
  ·rw[Xa (fun q=>h6 q.1),Xa (fun q=>h6 q.1)]
theorem qku{m:za}{x:zh}{op a b:Int}{s t:List (Int×Int)}{sup:List Int}(h:zG sup s t)(hr:∀t ∈jg m x op a b,zA sup t.1 t.2 t.1 t.2=true):zG sup (kI m x op a b s) (kI m x op a b t):=by
 unfold kI;by_cases hs:s=[]
 ·rw[hs,h.nil_iff.mp hs,Xa (fun q=>q.2 rfl)];exact zG.self hr
 ·have ht:t≠ []:=fun e=>hs (h.nil_iff.mpr e);by_cases h6:op=6
  ·rw[Xb ⟨h6,hs⟩,Xb ⟨h6,ht⟩];have hl:=h.last hs;refine⟨rfl,fun i h1 h2=> ?_⟩
   match i,h1 with
   |0,_=>exact hl
   |1,_=>exact hl
  ·rw[Xa (fun q=>h6 q.1),Xa (fun q=>h6 q.1)];exact zG.self hr
theorem qna{m:za}{x:zh}{pc op a b:Int}{s t:List (Int×Int)}(h:zG (zz m.classes) s t)(hr:∀t ∈jg m x op a b,zA (zz m.classes) t.1 t.2 t.1 t.2=true)(e:(qX m x pc op a b t).err=0):
  (qX m x pc op a b s).err=0∧(qX m x pc op a b s).next=(qX m x pc op a b t).next∧zG (zz m.classes) (qX m x pc op a b s).after (qX m x pc op a b t).after:=by
 by_cases ho:(qU pc op a).head?.any (fun n=>decide ((x.code.length:Int)≤n))=true
 ·unfold qX at e;rw[Xb ho]at e;exact absurd e (show ¬(4:Int)=0 by decide)
 by_cases h6:op=6∧t=[]
 ·obtain⟨rfl,rfl⟩:=h6;rw[qas]at e;exact absurd e (show ¬(4:Int)=0 by decide)
 have h6':¬(op=6∧s=[]):=fun q=>h6 ⟨q.1,h.nil_iff.mp q.2⟩;rw[q2t ho h6]at e⊢
 rw[q2t ho h6',qil h];exact qn7 h (qku h hr) e
theorem kz{c:Prop}[Decidable c]{A B:List (Int×Int)}{P:Int×Int→Prop}(hA:c→∀t ∈A,P t)(hB:¬c→∀t ∈B,P t):∀t ∈(if c then A else B),P t:=by
 by_cases g:c
 ·rw[Xb g];exact hA g
 ·rw[Xa g];exact hB g
theorem Zq{P:Int×Int→Prop}{u:Int×Int}(h:P u):∀t ∈ [u],P t:=fun t ht=>by
 rw[XL.mp ht];exact h
theorem q16{cl:List zJ}{t:Int×Int}(h:jn t.1 t.2 cl.length=true):zA (zz cl) t.1 t.2 t.1 t.2=true:=by
 unfold jn at h;rw[Xt]at h;refine YK (by omega) (fun h3=> ?_);rw[kq];omega
theorem q4l{m:za}(hm:zN m){c:Int}{t:Int×Int}(h:t ∈qh m.classes c):jn t.1 t.2 m.classes.length=true:=by
 unfold qh at h;obtain⟨j,_,hj⟩:=List.mem_flatMap.mp h;unfold ve at hj;cases hc:m.classes[j.toNat]? with
 |none=>rw[hc]at hj;simp at hj
 |some y=>
  rw[hc]at hj;have h1:=hm.cls _ _ hc;unfold kV at h1;simp only[Xr]at h1;have h2:=h1.2.1;unfold vw at h2;exact Xx.mp h2 _ hj
theorem qcu{m:za}{y:zh}(hy:q7q m y):∀t ∈jO y,zA (zz m.classes) t.1 t.2 t.1 t.2=true:=by
 unfold jO;refine kz (fun _ t ht=>absurd ht (by simp)) (fun h5=>Zq ?_);rcases hy.rt with h|h
 ·rw[h]at h5;exact absurd rfl h5
 ·exact q16 h
theorem Jt{l:List (Int×Int)}{a:Int}(h0:0≤a)(h1:a<l.length):l[a.toNat]?.getD (0,0) ∈l:=by
 have h2:a.toNat<l.length:=by omega
 rw[Xc h2];exact Xf h2
theorem qpb{m:za}{x:zh}{f:Nat}{op a b:Int}(hm:zN m)(hg:m.methods[f]? =some x)(hi:qf op a b=true)(hn:zZ m x op a b=true):
  ∀t ∈jg m x op a b,zA (zz m.classes) t.1 t.2 t.1 t.2=true:=by
 obtain⟨o0,o1,a0,a1,b0,b1⟩:=Qr hi;have hx:=hm.method (Xs hg);have s1:zA (zz m.classes) 1 0 1 0=true:=YK (.inl rfl) (fun q=>by cases q);have s2:zA (zz m.classes) 2 0 2 0=true:=YK (.inr (.inl rfl)) (fun q=>by cases q);have s4:zA (zz m.classes) 4 0 4 0=true:=YK (.inr (.inr (.inr rfl))) (fun q=>by cases q);have s3:a<m.classes.length→zA (zz m.classes) 3 a 3 a=true:=fun q=>YK (.inr (.inr (.inl rfl))) (fun _=>⟨a0,by rw[kq];exact q⟩);unfold jg;refine kz (fun _=>Zq s1) (fun _=> ?_);refine kz (fun _=>Zq s4) (fun _=> ?_);refine kz (fun h=>Zq ?_) (fun _=> ?_)
 ·have hl:=q5k (.inl h) hn;unfold qM;rw[Xb a0];have hmem:=Jt (l:=x.args++x.locals) a0 (by rw[Xe];omega);rcases Xn.mp hmem with q|q
  ·exact q16 (hx.at_ _ q)
  ·exact q16 (hx.lt _ q)
 refine kz (fun _=>Zq s1) (fun _=> ?_);refine kz (fun _=>Zq s1) (fun _=> ?_);refine kz (fun h=>Zq (s3 (q8m (.inl h) hn))) (fun _=> ?_);refine kz (fun _=>Zq s2) (fun _=> ?_);refine kz (fun _=>Zq s1) (fun _=> ?_);refine kz (fun _=>Zq s1) (fun _=> ?_);refine kz (fun h=>Zq ?_) (fun _=> ?_)
 ·exact q16 (q4l hm (Jt b0 (q0s (.inl h) hn).2))
 refine kz (fun h=>Zq ?_) (fun _=> ?_)
 ·exact q16 (hm.st _ (Jt a0 (q0q (.inl h) hn)))
 refine kz (fun h=>Zq (s3 (q8m (.inr h) hn))) (fun _=> ?_);refine kz (fun h=> ?_) (fun _=> ?_)
 ·subst h;have h1:=VI hn;have h2:a.toNat<m.methods.length:=by omega
  refine qcu (hm.method ?_);unfold zw;rw[Xc h2];exact Xf h2
 refine kz (fun h=> ?_) (fun _=> ?_)
 ·subst h;obtain⟨_,k,y,hk,hy,_⟩:=VH hm a0 b0 hn;refine qcu (hm.method ?_);unfold zw kY;rw[hk,Wb,Xi,hy];exact Xs hy
 refine kz (fun _=>Zq s1) (fun _=> ?_);exact fun t ht=>absurd ht (by simp)
theorem q4f{m:za}{f pc:Int}{s t:List (Int×Int)}(hm:zN m)(h:zG (zz m.classes) s t)(e:(zR m f pc t).err=0):
  (zR m f pc s).err=0∧(zR m f pc s).next=(zR m f pc t).next∧zG (zz m.classes) (zR m f pc s).after (zR m f pc t).after:=by
 unfold zR at e⊢
 by_cases g:0≤f∧f<m.methods.length∧0≤pc∧pc<(zw m f).code.length
 ·rw[Xb g]at e;rw[Xb g,Xb g];cases hi:(zw m f).code[pc.toNat]? with
  |none=>rw[hi]at e;exact absurd e (show ¬(1:Int)=0 by decide)
  |some i=>
   rw[hi]at e;have hf:f.toNat<m.methods.length:=by omega
   have hg:m.methods[f.toNat]? =some (zw m f):=by unfold zw;rw[Xc hf];rfl
   have hx:=hm.method (Xs hg);have him:=Xs hi;exact qna h (qpb hm hg (hx.fits.ct _ him) (hx.co _ him)) e
 ·rw[Xa g]at e;exact absurd e (show ¬(1:Int)=0 by decide)
structure zo where
 seen:Bool
 stack:List (Int×Int)
deriving DecidableEq
def jK:AtP zo:=fun w B p s=>w.cell? p=some (.bool s.seen)∧zI zc 2 w B (zf p 1) s.stack
theorem jK.keeps:vm jK:=fun _ _ _ _ p _ h hp hC hc=>⟨(hc _ hp).trans h.1,zI.keeps zc.keeps 2 h.2 hp hC hc⟩
theorem RowAt.keeps:vm (zI jK 2):=zI.keeps jK.keeps 2
def zt(S:List zo)(i:Int):zo:=S[i.toNat]?.getD ⟨false,[]⟩
theorem QU{S:List zo}{i:Nat}(h:i<S.length):zt S (i:Int)=S[i]:=by unfold zt;rw[Xi,Xc h];rfl
def q0d(sup:List Int)(a b:List (Int×Int)):Bool:=decide (a.length=b.length)&& (a.zip b).all fun p=>zA sup p.1.1 p.1.2 p.2.1 p.2.2
theorem q4o{sup:List Int}{a b:List (Int×Int)}:q0d sup a b=true↔zG sup a b:=by
 unfold q0d zG;rw[Xr,Xt,Xx];constructor
 ·rintro⟨h1,h2⟩;refine⟨h1,fun i g1 g2=> ?_⟩;have hz:i<(a.zip b).length:=by rw[List.length_zip];omega
  have:=h2 _ (Xf hz);rw[List.getElem_zip]at this;exact this
 ·rintro⟨h1,h2⟩;refine⟨h1,fun p hp=> ?_⟩;obtain⟨i,hi,rfl⟩:=Wl hp;rw[List.getElem_zip];exact h2 i _ _
def onB(m:za)(S:List zo)(af:List (Int×Int))(n:Int):Bool:=(zt S n).seen&& q0d (zz m.classes) af (zt S n).stack
def goB(m:za)(f pc:Int)(S:List zo)(st:List (Int×Int)):Bool:=decide ((zR m f pc st).err=0)&& (zR m f pc st).next.all (onB m S (zR m f pc st).after)
def kR(m:za)(f:Int)(S:List zo)(pc:Int):Bool:= !(zt S pc).seen||goB m f pc S (zt S pc).stack
def q3u(m:za)(f:Int)(S:List zo):Bool:=decide (0<S.length)&& (decide (S.length=(zw m f).code.length)&& ((zt S 0).seen&& decide ((zt S 0).stack.length=0)))
def vv(m:za)(f:Int)(S:List zo):Bool:=q3u m f S&& (List.range S.length).all (fun pc=>kR m f S (pc:Int))
def Jy(m:za)(maps:List (List zo)):Bool:=decide (maps.length=m.methods.length)&& (List.range maps.length).all (fun f=>vv m (f:Int) (maps[f]?.getD []))
theorem q15{n:Nat}{p:Nat→Bool}:(List.range n).all p=true↔∀i<n,p i=true:=by
 rw[Xx];exact⟨fun h i hi=>h i (XR.mpr hi),fun h i hi=>h i (XR.mp hi)⟩
theorem qny{n:Nat}{p:Nat→Bool}{i:Nat}(hi:i<n)(h:p i=false):(List.range n).all p=false:=by
 rw[Wa];intro q;have:=q15.mp q i hi;rw[h]at this;cases this
theorem q6y{m:za}{x:zh}{F P:Nat}{op a b:Int}{st:List (Int×Int)}(hi:qf op a b=true)(hn:zZ m x op a b=true)(he:(qX m x P op a b st).err=0):∀n ∈(qX m x P op a b st).next,0≤n∧n<x.code.length:=by
 obtain⟨o0,o1,a0,a1,b0,b1⟩:=Qr hi;have e4:¬(jf 4).err=0:=by unfold jf;decide
 unfold qX at he⊢
 by_cases h1:(qU P op a).head?.any (fun n=>decide ((x.code.length:Int)≤n))=true
 ·rw[Xb h1]at he;exact absurd he e4
 rw[Xa h1]at he⊢
 by_cases h2:(op=6∧st=[])∨st.length<(takes m x op a b st).length∨8<st.length - (takes m x op a b st).length+(kI m x op a b st).length
 ·rw[Xb h2]at he;exact absurd he e4
 rw[Xa h2]at he⊢
 by_cases h3:((st.drop (st.length - (takes m x op a b st).length)).zip (takes m x op a b st)).all (fun p=>Zf (zz m.classes) op p.1 p.2)=true
 ·rw[Xb h3];intro n hm;dsimp only at hm;unfold qU at hm h1;by_cases h18:op=18
  ·rw[Xb h18]at hm h1;simp at hm h1;omega
  ·rw[Xa h18]at hm h1;by_cases h19:op=19
   ·rw[Xb h19]at hm h1;have:=q9q (.inr h19) hn;simp at hm h1;omega
   ·rw[Xa h19]at hm h1;by_cases h33:op=33
    ·rw[Xb h33]at hm;simp at hm
    ·rw[Xa h33]at hm h1;simp at hm h1;omega
 ·rw[Xa h3]at he;exact absurd he e4
def JH(x:zh)(i:Int):Int:=x.phi[i.toNat]?.getD 0
def Zw(m:za)(x:zh)(pc:Nat):Int:=match x.code[pc]? with
 |some i=>kd m i.1 i.2.1 i.2.2
 |none=>0
def vZ(m:za)(f:Nat)(S:List zo)(pc:Nat):List Int:=(zR m (f:Int) (pc:Int) (zt S (pc:Int)).stack).next
def toOk(m:za)(x:zh)(pc:Nat)(q:Int):Bool:=decide (Zw m x pc+JH x q≤JH x pc)
def pcOk(m:za)(f:Nat)(x:zh)(S:List zo)(pc:Nat):Bool:= !(zt S (pc:Int)).seen||(vZ m f S pc).all (toOk m x pc)
def methOk(m:za)(f:Nat)(x:zh)(S:List zo):Bool:=decide (JH x 0≤x.pot)&& (List.range x.code.length).all (pcOk m f x S)
def JB(m:za)(l:List (List zo))(f:Nat):Bool:= !methOk m f (zw m (f:Int)) (l[f]?.getD [])
def jF(m:za)(l:List (List zo)):Int:=match(List.range m.methods.length).find? (JB m l)with
 |some f=>(f:Int)
 |none=> -1
theorem ql4{p:Nat→Bool}{n f:Nat}(hf:f<n)(h:∀g,g<f→p g=false)(hp:p f=true):(List.range n).find? p=some f:=by
 rw[List.find?_eq_some_iff_append];refine⟨hp,List.range f,(List.range (n - f - 1)).map (fun k=>f+1+k),?_,fun a ha=> ?_⟩
 ·refine List.ext_getElem? fun i=> ?_;rcases Xk i f with q|q
  ·rw[Wp (by omega),XN (by rw[XZ];exact q),Wp q]
  ·rw[XP (by rw[XZ];exact q),XZ];rcases Nat.eq_or_lt_of_le q with e|q2
   ·subst e;rw[Wp hf,Nat.sub_self];rfl
   ·rw[show i - f=(i - f - 1)+1 by omega,List.getElem?_cons_succ,XB];rcases Xk i n with r|r
    ·rw[Wp r,Wp (by omega)];show some i=some (f+1+(i - f - 1));congr 1;omega
    ·rw[Xv (by rw[XZ];exact r),Xv (by rw[XZ];omega)];rfl
 ·rw[XR]at ha;rw[h a ha];rfl
theorem quq{m:za}{l:List (List zo)}{f:Nat}(hf:f<m.methods.length)(h:∀g,g<f→JB m l g=false)(hp:JB m l f=true):jF m l=(f:Int):=by
 unfold jF;rw[ql4 hf h hp]
theorem qo1{m:za}{l:List (List zo)}(h:∀g,g<m.methods.length→JB m l g=false):jF m l= -1:=by
 unfold jF;rw[List.find?_eq_none.mpr (fun g hg=>by rw[XR]at hg;rw[h g hg];simp)]
def jD(n:Nat)(a b most:Int):List Int×Int:=((List.range n).map fun v:Nat=>(if(v:Int)=b then 1 else 0) - (if(v:Int)=a then 1 else 0),most)
def Vb(m:za)(f:Nat)(x:zh)(S:List zo)(pc:Nat):List (List Int×Int):=
 if(zt S (pc:Int)).seen=true then
  if vZ m f S pc=[]then [jD x.code.length (pc:Int) (-1) 0]else(vZ m f S pc).map fun q=>jD x.code.length (pc:Int) q (-(Zw m x pc))
 else []
def JZ(m:za)(f:Nat)(x:zh)(S:List zo):Nat→List (List Int×Int)
 |0=> [jD x.code.length (-1) 0 x.pot]
 |pc+1=>JZ m f x S pc++Vb m f x S pc
def QA(m:za)(l:List (List zo))(f:Int):List (List Int×Int):=if 0≤f∧f<m.methods.length then JZ m f.toNat (zw m f) (l[f.toNat]?.getD []) (zw m f).code.length else []
def Je(v:Value)(A:Option Addr):Prop:=∀g,v.ownBlock=some g→∀ad,A=some ad→g≠ad.block
theorem q4y{w w3:World}{o:Obj}{B:Nat}{A:Option Addr}{xs:List Value}{v:Value}(h:zq w B A xs)(hB:B≤w.heap.size)(hg:(w.alloc o).grownBy w3 v.ownBlock)(ha:Je v A):zq w3 B A xs:=fun j u hu=>by
 obtain⟨ad,e,hb,hc⟩:=h j u hu;refine⟨ad,e,hb,?_⟩;have hk:(ad.add j).block=ad.block:=by rw[zu]
 have h1:w3.cell? (ad.add j)=(w.alloc o).cell? (ad.add j):=XX (hg.block _ (by rw[hk];simp;omega) (fun e'=>ha _ e'.symm ad e hk));rw[h1];exact(((zb w.heap.size w).alloc (zn _) o).cell (by rw[hk];omega)).trans hc
theorem qid{w:World}{A:Option Addr}{B N e n c:Nat}{xs:List Value}(ho:w.ownsRow B e 1 (.slice A n c) n xs)(h:N<B):Je (.slice (some ⟨N,0,none⟩) 0 0) A:=fun g hg ad e=>by
 have h1:N=g:=by simpa[Value.ownBlock]using hg
 have h2:=(ho.lt ad.block (by rw[e];rfl)).1;omega
theorem q2o{v:Value}{A:Option Addr}{B g9 H n c:Nat}(h:Je v A)(hlt:∀ad,A=some ad→ad.block<B)(hor:v.ownBlock=some g9∨g9=H)(hH:B≤H):Je (.slice (some ⟨g9,0,none⟩) n c) A:=fun g hg ad e=>by
 have:g9=g:=by simpa[Value.ownBlock]using hg
 subst this;rcases hor with q|q
 ·exact h _ q ad e
 ·have:=hlt ad e;omega
set_option maxHeartbeats 3200000 in
theorem qfq(m:za)(a b:Int)(h:zi)(w:World)(H:zm w w.heap.size h m)(hn:m.classes.length≤1000):
  Calls Tryz.prog 47 #[zp h m,zF 32 a b] w (vl (qp m 32 a b) w):=by
 obtain⟨L,hL⟩:∃L,Zr m.classes a=L:=⟨_,rfl⟩
 rw[show qp m 32 a b=vJ m b (Zr m.classes a)from rfl,hL];have hLl:L.length≤1000:=by rw[←hL];exact Xd (VE _ _ _) hn
 have HLB:=zH hL;clear hL;obtain⟨i0,hi,hz0,hz1,hz2⟩:=info_parts vT;obtain⟨hq,hc,hb,hz⟩:=VK h m 32 a b w;have HW:=zH hb;have HC:=zH hc;have HZ:=zH hz;have HBX:=zH hq;have HIM:=zH (H.now hb);have hn1:=hn;have hkc:=H.classes.cap;clear hb hq hc hz H;go_enter Tryz.func47,Tryz.ntmps47;go_upto_region 1 with fail
 generalize(w.alloc (zg h m)).alloc (.cells #[.int .i64 32,.int .i64 a,.int .i64 b] 55)=w1 at*
 go_upto_region 2 with fail
 have HO:=zH (VN w1 3);have HX:=zH ((zb w1.heap.size w1).alloc (zn _) (.cells #[] 3));have HZ12:Hid (w1.heap.size<(w1.alloc (.cells #[] 3)).heap.size):=zH (by simp);generalize w1.alloc (.cells #[] 3)=w2 at*
 have hlt:w.heap.size+1<w1.heap.size:=by have:=HZ.out;omega
 have HL:=zH hlt;have HLB0:Hid (w.heap.size<w1.heap.size):=zH (by omega);clear hlt;have j0:=(HC.out.keep HX.out HL.out) 0 _ rfl;have j1:=(HC.out.keep HX.out HL.out) 1 _ rfl;obtain⟨q0,q1,q2,q3,q4,q5,q6⟩:=HBX.out.keep HX.out HLB0.out;have hsz:=HX.out.size;go_wp2_with(first|(go_at_call 72;(with_reducible refine(qnx HIM HX HLB hn1).mono ?_);rintro e w5 ⟨v5,rfl,ho,hb⟩;have HO:=zH (zT HO.out hb (zL HO.out));have HX:=zj HX hb;obtain⟨A5,c5,rfl,hl5,g1,g2⟩:=kO ho;have HL5:=zH hl5;have HAP:=zH (qid ho HZ12.out);clear hb ho hl5))
 go_loopw [5,7] (fun v i wr=>∃k:Nat,k≤L.length∧i= .int .i64 k∧Hid (wr.ownsRow w1.heap.size 3 1 v (vJ m b (L.take k)).length ((vJ m b (L.take k)).map (Value.int .i64)))∧Hid (Below w1.heap.size w1 wr)∧Hid (zq wr w5.heap.size A5 (L.map (Value.int .i64)))∧Hid (Je v A5)∧Hid (w5.heap.size≤wr.heap.size)) (fun _ i _=>L.length - (intOf i).toNat)
 case atStart=>exact⟨0,Xp _,rfl,HO,HX,HL5,HAP,zH (zn _)⟩
 case round=>
  clear HO HX HL5 HAP j0 j1 q0 q1 q2 q3 q4 q5 q6;obtain⟨k,hk,rfl,HO,HX,HL5,HAP,HSZ⟩:=hrel;by_cases hlt:k<L.length
  ·obtain⟨ad,rfl,hab,hc0⟩:=HL5.out k (.int .i64 L[k]) (by rw[XB,Xc hlt];rfl);have hs:=q85 (m:=m) (b:=b) hlt;have hyl:(vJ m b (L.take k)).length≤1000:=Xd (q4g _ _ _) (by rw[XO];omega);obtain⟨q,hq⟩:∃q,L[k]=q:=⟨_,rfl⟩
   rw[hq]at hs hc0;have HPB:Hid ((ad.add k).block<wr.heap.size):=zH (by rw[zu];exact Xj hab HSZ.out);have p:=hc0;have HLT5:Hid (∀ad',some ad=some ad'→ad'.block<w5.heap.size):=zH (fun ad' e=>by injection e with e;subst e;exact hab);obtain⟨o,ho⟩:∃o,jP m.classes q b=o:=⟨_,rfl⟩
   rw[ho]at hs;have HSV:=zH ho;have HS:=zH hs;clear hs ho hq hab hc0;generalize vJ m b (L.take k)=Y at*
   obtain⟨q0,q1,q2,q3,q4,q5,q6⟩:=HBX.out.keep HX.out HLB0.out;have j2:=(HC.out.keep HX.out HL.out) 2 _ rfl;have HXd:Hid (Below w1.heap.size w1 wr.drew):=zH HX.out.drew;have HBr:Hid (Below wr.heap.size wr wr.drew):=zH (zb wr.heap.size wr).drew;have HL5d:Hid (zq wr.drew w5.heap.size (some ad) (L.map (Value.int .i64))):=zH (HL5.out.below_to HBr.out HSZ.out);have HOd:Hid (wr.drew.ownsRow w1.heap.size 3 1 u5 Y.length (Y.map (Value.int .i64))):=zH (zT HO.out (zb wr.heap.size wr).drew (zL HO.out));cases o with
   |none=>
    go_wp2_with fail
    go_region_held3 (fun w'=>w'.cell? ⟨w.heap.size,0,none⟩=some (.slice h.A0 m.classes.length h.c0)∧w'.cell? ⟨w.heap.size,1,none⟩=some (.slice h.A1 m.statics.length h.c1)∧w'.cell? ⟨w.heap.size,2,none⟩=some (.slice h.A2 m.ints.length h.c2)∧w'.cell? ⟨w.heap.size,3,none⟩=some (.slice h.A3 m.methods.length h.c3)∧w'.cell? ⟨w.heap.size,4,none⟩=some (.slice h.A4 m.entries.length h.c4)∧w'.cell? ⟨w.heap.size,5,none⟩=some (.int .i64 m.stack)∧w'.cell? ⟨w.heap.size,6,none⟩=some (.int .i64 m.heap)∧w'.cell? ⟨w.heap.size+1,2,none⟩=some (.int .i64 b)∧w'.cell? (ad.add k)=some (.int .i64 q)) (first|exact⟨q0,q1,q2,q3,q4,q5,q6,j2,p⟩) (first|(go_at_call 73;(with_reducible refine(qcs HIM HXd HSV).mono ?_);rintro e w2 ⟨rfl,hb⟩;have HX2:=zj HXd hb;have HL52:=zH ((HL5d.out.below_to hb HSZ.out):zq w2 w5.heap.size (some ad) (L.map (Value.int .i64)));have HSZ2:Hid (w5.heap.size≤w2.heap.size):=zH (Xd HSZ.out hb.size);have HO2:=zH (zT HOd.out hb (zL HOd.out));have hsz2:=HX2.out.size;obtain⟨q0,q1,q2,q3,q4,q5,q6⟩:=HBX.out.keep HX2.out HLB0.out;have j2:=(HC.out.keep HX2.out HL.out) 2 _ rfl;have p:=(hb.cell (p:=ad.add k) HPB.out).trans p;clear hb))
    go_wp2_with fail
    go_roundw;case rel=>exact⟨k+1,by omega,by go_num,zH (by rw[HS.out,Option.toList_none,List.append_nil];exact HO2.out),HX2,HL52,HAP,HSZ2⟩
    case measure=>simp[intOf];omega
   |some g=>
    go_wp2_with fail
    go_region_held3 (fun w'=>w'.cell? ⟨w.heap.size,0,none⟩=some (.slice h.A0 m.classes.length h.c0)∧w'.cell? ⟨w.heap.size,1,none⟩=some (.slice h.A1 m.statics.length h.c1)∧w'.cell? ⟨w.heap.size,2,none⟩=some (.slice h.A2 m.ints.length h.c2)∧w'.cell? ⟨w.heap.size,3,none⟩=some (.slice h.A3 m.methods.length h.c3)∧w'.cell? ⟨w.heap.size,4,none⟩=some (.slice h.A4 m.entries.length h.c4)∧w'.cell? ⟨w.heap.size,5,none⟩=some (.int .i64 m.stack)∧w'.cell? ⟨w.heap.size,6,none⟩=some (.int .i64 m.heap)∧w'.cell? ⟨w.heap.size+1,2,none⟩=some (.int .i64 b)∧w'.cell? (ad.add k)=some (.int .i64 q)) (first|exact⟨q0,q1,q2,q3,q4,q5,q6,j2,p⟩) (first|(go_at_call 73;(with_reducible refine(qcs HIM HXd HSV).mono ?_);rintro e w2 ⟨rfl,hb⟩;have HX2:=zj HXd hb;have HL52:=zH ((HL5d.out.below_to hb HSZ.out):zq w2 w5.heap.size (some ad) (L.map (Value.int .i64)));have HSZ2:Hid (w5.heap.size≤w2.heap.size):=zH (Xd HSZ.out hb.size);have HO2:=zH (zT HOd.out hb (zL HOd.out));have hsz2:=HX2.out.size;obtain⟨q0,q1,q2,q3,q4,q5,q6⟩:=HBX.out.keep HX2.out HLB0.out;have j2:=(HC.out.keep HX2.out HL.out) 2 _ rfl;have p:=(hb.cell (p:=ad.add k) HPB.out).trans p;clear hb))
    go_wp2_with(first|(at_builtin;refine wpList_append_lies _ rfl _ _ 26 rfl w1.heap.size 3 i0 (.int .i64 0) 1 8 Tryz.underlying26 hi hz0 hz1 hz2 rfl (by decide) _ _ _ rfl (HO2.out.alloc _) ⟨_,0,none⟩ 1 1 [.int .i64 g] rfl rfl (q1m _ _) (q1e _) (by decide) (by unfold maxLen;omega) (by omega) (by simp;omega) _ rfl ?_;intro g9 c9 w3 hown' hgrow hor hlt9;have hR:=YD HO2.out hsz2 HX2.out hown' hgrow;have HO3:=zH hR.1;have HX3:=zH hR.2;have HL53:=zH (q4y HL52.out HSZ2.out hgrow HAP.out);have HAP3:Hid (Je (.slice (some ⟨g9,0,none⟩) (Y.length+1) c9) (some ad)):=zH (q2o HAP.out HLT5.out hor (by have:=HSZ2.out;simp;omega));have HSZ3:Hid (w5.heap.size≤w3.heap.size):=zH (by have h1:=hgrow.size;have h2:=HSZ2.out;simp at h1;omega);clear hown' hgrow hR hor hlt9))
    go_roundw;case rel=>exact⟨k+1,by omega,by go_num,zH (by rw[HS.out];exact HO3.out),HX3,HL53,HAP3,HSZ3⟩
    case measure=>simp[intOf];omega
  ·obtain rfl:k=L.length:=by omega
   go_wp2_with fail
   go_ret;rw[XU]at HO;exact⟨_,rfl,ja HO.out HW.out.size,HW.out.trans (HX.out.mono HW.out.size)⟩
def kW(n:Nat)(maps:List (List zo)):Prop:=∀S ∈maps,S.length≤n∧∀s ∈S,s.stack.length≤n
theorem kW.more{n k:Nat}{maps:List (List zo)}(h:kW n maps)(hk:n≤k):kW k maps:=fun S hS=>⟨Xd (h S hS).1 hk,fun s hs=>Xd ((h S hS).2 s hs) hk⟩
theorem kF{α:Type}{At:AtP α}(hK:vm At){k:Nat}{w w':World}{A:Option Addr}{c:Nat}{l:List α}(h:ze At k w w.heap.size A c l)(hb:Below w.heap.size w w'):ze At k w' w'.heap.size A c l:=
 (h.below_to hK hb (zn _)).keep' hK hb.size (fun _ _=>rfl)
theorem qp7{w:World}{B:Nat}{h:zi}{m:za}(H:zm w B h m){G:Nat}(hG:G<m.methods.length):∃ad A4 j4,h.A3=some ad∧ad.block<B∧w.cell? (zf (ad.add (G*8)) 4)=some (.slice A4 m.methods[G].code.length j4):=by
 obtain⟨ad,hn,e0,hb,hmi,hmc⟩:=Qe H hG;exact⟨ad,hn.A4,hn.k4,e0,hb,hmc.c4⟩
theorem q14{m:za}{x:zh}{F P:Nat}{op a b:Int}{st:List (Int×Int)}(hx:m.methods[F]? =some x)(hi:x.code[P]? =some (op,a,b)):zR m F P st=qX m x P op a b st:=by
 have hF:=(XM.mp hx).1;have hP:=(XM.mp hi).1;unfold zR zw;rw[Xi,hx,Wb,Xb ⟨by omega,by omega,by omega,by omega⟩,Xi,hi]
structure zr where
 seen:Bool
 A:Option Addr
 c:Nat
 stack:List (Int×Int)
def zr.shp(x:zr):zo:=⟨x.seen,x.stack⟩
def ZW(x:zr):List Value:=[.bool x.seen,.slice x.A x.stack.length x.c]
def ZD(X:List zr):List Value:=X.flatMap ZW
structure qS(w:World)(g:Nat)(X:List zr):Prop where
 blk:zd w g (ZD X) 75
 row:∀x ∈X,ze zc 2 w w.heap.size x.A x.c x.stack
theorem qrw(X:List zr):(ZD X).length=X.length*2:=q2d (f:=ZW) (k:=2) (fun _=>rfl) X
theorem qS.seen_at{w:World}{g i:Nat}{X:List zr}(h:qS w g X)(hi:i<X.length):w.cell? ⟨g,i*2,none⟩=some (.bool X[i].seen):=
 h.blk.cells _ _ (Zo (f:=ZW) (k:=2) (fun _=>rfl) X i 0 X[i] (Xc hi) (by decide))
theorem qS.stack_at{w:World}{g i:Nat}{X:List zr}(h:qS w g X)(hi:i<X.length):w.cell? ⟨g,i*2+1,none⟩=some (.slice X[i].A X[i].stack.length X[i].c):=
 h.blk.cells _ _ (Zo (f:=ZW) (k:=2) (fun _=>rfl) X i 1 X[i] (Xc hi) (by decide))
theorem qS.noint{w:World}{g:Nat}{X:List zr}(h:qS w g X){p:Addr}{k:IntKind}{v:Int}(hp:p.block=g):¬w.cell? p=some (.int k v):=fun e=>by
 have hb:=h.blk;unfold zd at hb;unfold World.cell? at e;rw[hp,hb]at e;simp at e;obtain⟨_,e⟩:=e;have hm:(Value.int k v) ∈ZD X:=Xs e;obtain⟨x,_,hx⟩:=List.mem_flatMap.mp hm;simp[ZW]at hx
theorem qS.ty_apart{w:World}{g B c i:Nat}{X:List zr}{A:Option Addr}{L:List (Int×Int)}(h:qS w g X)(hs:ze zc 2 w B A c L)(hi:i<L.length):∀ad,A=some ad→ad.block≠g:=fun ad e q=>by
 obtain⟨ad',e',_,h0,_⟩:=hs.row.at_ hi;rw[e]at e';injection e' with e';subst e';exact h.noint (p:=ad.add (i*2)) (by rw[zu];exact q) h0
theorem q1a{w w':World}{g B C c:Nat}{A:Option Addr}{L:List (Int×Int)}(hs:ze zc 2 w B A c L)(hC:B≤C)(hk:∀q:Addr,q.block≠g→w'.cell? q=w.cell? q)(ha:∀i,i<L.length→∀ad,A=some ad→ad.block≠g):ze zc 2 w' C A c L:=
 ⟨hs.le,hs.cap,fun i t hi=>by
  obtain⟨ad,e,hb,h0,h1⟩:=hs.row i t hi;have hil:i<L.length:=by
   rcases Xk i L.length with q|q
   ·exact q
   ·rw[Xv q]at hi;cases hi
  have hn:=ha i hil ad e;refine⟨ad,e,Xj hb hC,(hk _ (by rw[zu];exact hn)).trans h0,(hk _ (by show(ad.add _).block≠g;rw[zu];exact hn)).trans h1⟩⟩
theorem qS.keep{w w':World}{g:Nat}{X:List zr}(h:qS w g X)(hb:Below w.heap.size w w'):qS w' g X:=
 ⟨h.blk.keep hb h.blk.lt,fun x hx=>((h.row x hx).below_to zc.keeps hb (zn _)).keep' zc.keeps hb.size (fun _ _=>rfl)⟩
abbrev ZX(w:World)(g i:Nat)(x:zr):World:=(w.setCell ⟨g,i*2,none⟩ (.bool x.seen)).setCell ⟨g,i*2+1,none⟩ (.slice x.A x.stack.length x.c)
theorem qo0(w:World)(g i:Nat)(x:zr):∀q:Addr,q.block≠g→(ZX w g i x).cell? q=w.cell? q:=fun q hq=>by
 unfold ZX;rw[World.cell?_setCell_far _ _ _ _ (fun e=>hq e.symm),World.cell?_setCell_far _ _ _ _ (fun e=>hq e.symm)]
theorem qcr:∀(X:List zr) (i:Nat) (x:zr),(ZD (X.set i x))=((ZD X).set (i*2) (.bool x.seen)).set (i*2+1) (.slice x.A x.stack.length x.c)∨X.length≤i
 | [],i,x=> .inr (Xp _)
 |y::X,0,x=> .inl rfl
 |y::X,i+1,x=>by
  rcases qcr X i x with h|h
  ·refine .inl ?_;show ZW y++ZD (X.set i x)=((ZW y++ZD X).set _ _).set _ _;rw[h,show(i+1)*2=i*2+2 by omega];rfl
  ·exact .inr (by simp;omega)
theorem qS.put{w:World}{g i:Nat}{X:List zr}{x:zr}(h:qS w g X)(hi:i<X.length)(hx:ze zc 2 w w.heap.size x.A x.c x.stack):qS (ZX w g i x) g (X.set i x):=by
 have hz:(ZX w g i x).heap.size=w.heap.size:=by simp[ZX]
 have hap:∀{A:Option Addr} {c:Nat} {L:List (Int×Int)},ze zc 2 w w.heap.size A c L→ze zc 2 (ZX w g i x) (ZX w g i x).heap.size A c L:=fun {A c L} hs=>
  q1a hs (by rw[hz];exact zn _) (qo0 w g i x) (fun j hj=>h.ty_apart hs hj)
 refine⟨?_,fun y hy=> ?_⟩
 ·rcases qcr X i x with e|e
  ·rw[e];exact(h.blk.set _ _).set _ _
  ·omega
 ·rcases X9 hy with q|q
  ·exact hap (h.row y q)
  ·rw[q];exact hap hx
def Dry(w:World)(v:Value):Prop:=∀g,v.ownBlock=some g→∀q:Addr,q.block=g→∀k x,¬w.cell? q=some (.int k x)
theorem q3v{w:World}{g:Nat}{arr:Array Value}{e:TypeId}{fz:Nat×Nat}(h:w.heap[g]? =some (.cells arr e fz))(hn:∀u ∈arr.toList,∀k x,u≠ .int k x):∀q:Addr,q.block=g→∀k x,¬w.cell? q=some (.int k x):=by
 intro q hq k x hc;unfold World.cell? at hc;rw[hq,h]at hc;dsimp only at hc;split at hc
 ·cases hc
 ·exact hn _ (Array.mem_toList_iff.mpr (Array.mem_of_getElem? hc)) _ _ rfl
theorem dry_in{w:World}{g:Nat}{arr:Array Value}{e:TypeId}{fz:Nat×Nat}(h:w.heap[g]? =some (.cells arr e fz))(hd:∀q:Addr,q.block=g→∀k x,¬w.cell? q=some (.int k x)):∀u ∈arr.toList,∀k x,u≠ .int k x:=by
 intro u hu k x e;subst e;obtain⟨j,hj⟩:=List.mem_iff_getElem?.mp hu;refine hd ⟨g,j,none⟩ rfl k x ?_;unfold World.cell?;dsimp only;rw[h];dsimp only;rw[←Array.getElem?_toList,hj];rfl
theorem qc5(n:Nat):∀u ∈(Builtin.zeroCells (Value.slice none 0 0).cells n).toList,∀k x,u≠ .int k x:=by
 intro u hu k x e;subst e;unfold Builtin.zeroCells at hu;simp[Value.cells]at hu;obtain⟨a,_,h⟩:=hu;rw[Nat.mod_one]at h;simp at h
theorem Dry.below{w w':World}{v:Value}(h:Dry w v)(hv:∀g,v.ownBlock=some g→g<w.heap.size)(hb:Below w.heap.size w w'):Dry w' v:=fun g hg q hq k x=>by
 rw[hb.cell (by rw[hq];exact hv g hg)];exact h g hg q hq k x
theorem qpx(w:World)(T:TypeId):Dry (w.alloc (.cells #[] T)) (.slice (some ⟨w.heap.size,0,none⟩) 0 0):=fun g hg=>by
 simp[Value.ownBlock]at hg;subst hg;exact q3v (Xw _ _) (fun u hu=>by simp at hu)
theorem qfk{P:Program}(w:World)(base:Nat)(t ty e:TypeId)(i:TypeInfo)(bytes:Nat)(ht:P.underlying t=some (.slice e))(hi:P.info? e=some i)(hz:i.zero=some (.slice none 0 0))
  (hsize:i.size=1) (hby:i.bytes=bytes) (v:Value) (n:Nat) (xs:List Value) (hown:w.ownsRow base e 1 v n xs) (hd:Dry w v)
  (a:Addr) (c:Nat) (A':Option Addr) (n' c':Nat) (hnews:w.cell? (a.add 0)=some (.slice A' n' c'))
  (h63:n+1≤maxLen) (hbytes:(n+1)*bytes≤140737488355328) (hbase:base≤w.heap.size):
  ∃g cap w',(Builtin.append_ #[t,t] ty #[v,.slice (some a) 1 c]).run P w= .ok (.slice (some ⟨g,0,none⟩) (n+1) cap) w'∧w'.ownsRow base e 1 (.slice (some ⟨g,0,none⟩) (n+1) cap) (n+1) (xs++[.slice A' n' c'])∧
   w.grownBy w' v.ownBlock∧(v.ownBlock=some g∨g=w.heap.size)∧g<w'.heap.size∧Dry w' (.slice (some ⟨g,0,none⟩) (n+1) cap):=by
 have hnw:∀j u,[Value.slice A' n' c'][j]? =some u→w.cell? (a.add j)=some u:=fun j u hj=>by
  match j,hj with
  |0,hj=>simp at hj;subst hj;exact hnews
  |j+1,hj=>simp at hj
 have h1:∀u ∈ [Value.slice A' n' c'],u.oneCell'=true:=fun u hu=>by simp at hu;subst hu;rfl
 have hsmall:n+1≤9223372036854775807:=by simp only[maxLen]at h63;omega
 obtain⟨v',w',hr,h2,h3,h4,h5⟩:=run_append_own_at (P:=P) w base t ty e i (.slice none 0 0) 1 bytes ht hi hz hsize hby rfl (by decide) v n xs hown a 1 c [.slice A' n' c'] rfl hnw h1 h63 hbytes hbase;have hnot:∀u:Value,u= .slice A' n' c'→∀k x,u≠ .int k x:=fun u hu k x e=>by rw[hu]at e;cases e
 obtain⟨g,cap,rfl,hlt⟩:∃g cap,v'= .slice (some ⟨g,0,none⟩) (n+1) cap∧g<w'.heap.size:=by
  rcases h2.2 with⟨_,q⟩|⟨g,cap,cur,e1,_,hg,_⟩
  ·omega
  ·exact⟨g,cap,e1,(Array.getElem?_eq_some_iff.1 hg).1⟩
 refine⟨g,cap,w',hr,h2,h3,?_,hlt,fun g' hg'=> ?_⟩
 ·rcases h5 with h5|h5
  ·exact .inl (h5.symm.trans rfl)
  ·simp[Value.ownBlock]at h5;exact .inr h5
 ·simp[Value.ownBlock]at hg';subst hg';rcases hown.2 with⟨rfl,rfl⟩|⟨gv,capv,cur,rfl,hbg,hg,hnc,hcm,hcs,htake⟩
  ·have hq:=run_append_nil (P:=P) w t ty e i (.slice none 0 0) ht hi hz a 1 c [.slice A' n' c'] (by rw[hsize];rfl) hnw (by decide) (by decide) (by rw[hby];omega);rw[hr]at hq;injection hq with q1 q2;injection q1 with q1;injection q1 with q1;simp at q1;subst q1 q2;refine q3v (Xw w.drew _) fun u hu=> ?_;simp only[Array.toList_append]at hu;rcases Xn.mp hu with hu|hu
   ·simp at hu;exact hnot u hu
   ·exact qc5 _ u hu
  ·have hcd:=dry_in hg (hd gv rfl);by_cases hroom:n+1≤capv
   ·have hq:=run_append_room (P:=P) w t ty e i ht hi gv n capv cur hg a 1 c [.slice A' n' c'] (by rw[hsize];rfl) hnw h1 hroom (by rw[hsize,hcs];simp;omega);rw[hr]at hq;injection hq with q1 q2;injection q1 with q1;injection q1 with q1;simp at q1;subst q1 q2;refine q3v (setRow_heap w _ cur _ e _ hg) fun u hu=> ?_;simp only[Xu]at hu;rcases Xn.mp hu with hu|hu
    ·exact hcd u (List.mem_of_mem_take hu)
    ·rcases Xn.mp hu with hu|hu
     ·simp at hu;exact hnot u hu
     ·exact hcd u (List.mem_of_mem_drop hu)
   ·have holds:∀j u,xs[j]? =some u→w.cell? ((⟨gv,0,none⟩:Addr).add j)=some u:=hown.cells (g:=gv) rfl;have hq:=run_append_grow (P:=P) w t ty e i (.slice none 0 0) ht hi hz ⟨gv,0,none⟩ n capv xs (by rw[hsize];exact hown.1) holds a 1 c [.slice A' n' c'] (by rw[hsize];rfl) hnw (by omega) (by omega) (growslice_fits (by omega) (by rw[hby];exact hbytes));rw[hr]at hq;injection hq with q1 q2;injection q1 with q1;injection q1 with q1;simp at q1;subst q1 q2;refine q3v (Xw w.drew _) fun u hu=> ?_;simp only[Array.toList_append]at hu;rcases Xn.mp hu with hu|hu
    ·rcases Xn.mp hu with hu|hu
     ·exact hcd u (by rw[←htake]at hu;exact List.mem_of_mem_take (by simpa using hu))
     ·simp at hu;exact hnot u hu
    ·exact qc5 _ u hu
theorem qmd{P:Program}{w:World}{ops:Array Oper}{rest:List Oper}{o:Oper}{a:Act}{Q:Exit→Act→World→Prop}(hgd:o.guard=none)(s x:Operand)(t:TypeId)
  (ho:o.op= .call {callee:= .builtin .append,args:= #[s,x],argTypes:= #[t,t]})
  (base:Nat) (e:TypeId) (i:TypeInfo) (bytes:Nat) (ht:P.underlying t=some (.slice e)) (hi:P.info? e=some i) (hz:i.zero=some (.slice none 0 0))
  (hsize:i.size=1) (hby:i.bytes=bytes) (v:Value) (n:Nat) (xs:List Value) (hs:a.eval s=v) (hown:w.ownsRow base e 1 v n xs) (hd:Dry w v)
  (ad:Addr) (c:Nat) (A':Option Addr) (n' c':Nat) (hx:a.eval x= .slice (some ad) 1 c) (hnews:w.cell? (ad.add 0)=some (.slice A' n' c'))
  (h63:n+1≤maxLen) (hbytes:(n+1)*bytes≤140737488355328) (hbase:base≤w.heap.size) (H:Nat) (hH:w.heap.size=H)
  (h:∀g cap w',w'.ownsRow base e 1 (.slice (some ⟨g,0,none⟩) (n+1) cap) (n+1) (xs++[.slice A' n' c'])→w.grownBy w' v.ownBlock→(v.ownBlock=some g∨g=H)→g<w'.heap.size→Dry w' (.slice (some ⟨g,0,none⟩) (n+1) cap)→wpList P ops Q rest (a.put o.dst (.slice (some ⟨g,0,none⟩) (n+1) cap)) w'):
  wpList P ops Q (o::rest) a w:=by
 refine wpList_plain hgd fun K hK=> ?_;obtain⟨g,cap,w',hr,h2,h3,h4,h5,h6⟩:=qfk (P:=P) w base t o.type e i bytes ht hi hz hsize hby v n xs hown hd ad c A' n' c' hnews h63 hbytes hbase;unfold Oper.wp execOp;simp only[ho,resolve,invoke,builtin,Sem.run_bind,Sem.run_pure,Result.andThen_ok,List.map_toArray,List.map_cons,List.map_nil,hs,hx,hr];exact hK _ _ (h g cap w' h2 h3 (hH ▸ h4) h5 h6)
def q7h(m:za)(f q:Int):List Int:=match(zw m f).code[q.toNat]? with
 |some i=>qU q i.1 i.2.1
 |none=> []
theorem qh0{m:za}{x:zh}{pc op a b:Int}{st:List (Int×Int)}(he:(qX m x pc op a b st).err=0):(qX m x pc op a b st).next=qU pc op a∧(qX m x pc op a b st).after.length≤8:=by
 have e4:¬(jf 4).err=0:=by unfold jf;decide
 unfold qX at he⊢
 by_cases h1:(qU pc op a).head?.any (fun n=>decide ((x.code.length:Int)≤n))=true
 ·rw[Xb h1]at he;exact absurd he e4
 rw[Xa h1]at he⊢
 by_cases h2:(op=6∧st=[])∨st.length<(takes m x op a b st).length∨8<st.length - (takes m x op a b st).length+(kI m x op a b st).length
 ·rw[Xb h2]at he;exact absurd he e4
 rw[Xa h2]at he⊢
 by_cases h3:((st.drop (st.length - (takes m x op a b st).length)).zip (takes m x op a b st)).all (fun p=>Zf (zz m.classes) op p.1 p.2)=true
 ·rw[Xb h3];refine⟨rfl,?_⟩;have:¬8<st.length - (takes m x op a b st).length+(kI m x op a b st).length:=fun q=>h2 (.inr (.inr q));show(List.take _ st++_).length≤8;rw[Xe,XO];omega
 ·rw[Xa h3]at he;exact absurd he e4
def qaz(m:za)(f:Int)(S:List zo)(pc:Nat):Prop:=(zt S pc).seen=true→(zR m f pc (zt S pc).stack).err=0∧∀n ∈(zR m f pc (zt S pc).stack).next,(zt S n).seen=true∧(zR m f pc (zt S pc).stack).after.length=(zt S n).stack.length
structure q0n(m:za)(f:Int)(S:List zo):Prop where
 len:S.length=(zw m f).code.length
 first:(zt S 0).seen=true
 pred:∀i:Nat,i<S.length→i≠0→(zt S i).seen=true→∃q:Nat,q<S.length∧q≠i∧(zt S q).seen=true∧(i:Int) ∈q7h m f q
 small:∀s ∈S,s.stack.length≤8
structure qfe(m:za)(f:Int)(S:List zo):Prop where
 grow:q0n m f S
 done:∀pc,pc<S.length→qaz m f S pc
theorem q1c{S:List zo}{q i:Nat}{s:zo}(hq:q<S.length):zt (S.set q s) (i:Int)=if i=q then s else zt S (i:Int):=by
 unfold zt;rw[Xi,Wc];by_cases h:q=i
 ·subst h;rw[Xb rfl,Xb rfl,Xb hq];rfl
 ·rw[Xa h,Xa (fun e=>h e.symm)]
theorem q0n.put{m:za}{f:Int}{S:List zo}(h:q0n m f S){p q:Nat}{L:List (Int×Int)}(hq:q<S.length)(hp:p<S.length)(hs:(zt S p).seen=true)(hn:(q:Int) ∈q7h m f p)(hL:L.length≤8):q0n m f (S.set q ⟨true,L⟩):=by
 have hset:∀i:Nat,zt (S.set q ⟨true,L⟩) (i:Int)=if i=q then⟨true,L⟩else zt S (i:Int):=fun i=>q1c hq
 have hkeep:∀i:Nat,(zt S i).seen=true→(zt (S.set q ⟨true,L⟩) (i:Int)).seen=true:=fun i hi=>by
  rw[hset];by_cases e:i=q
  ·rw[Xb e]
  ·rw[Xa e];exact hi
 refine⟨by rw[XI];exact h.len,hkeep 0 h.first,fun i hi h0 hsi=> ?_,fun s hs'=> ?_⟩
 ·rw[XI]at hi;rw[XI];by_cases e:(zt S i).seen=true
  ·obtain⟨r,r1,r2,r3,r4⟩:=h.pred i hi h0 e;exact⟨r,r1,r2,hkeep r r3,r4⟩
  ·have hiq:i=q:=by
    rw[hset]at hsi;by_cases e2:i=q
    ·exact e2
    ·rw[Xa e2]at hsi;exact absurd hsi e
   subst hiq;exact⟨p,hp,fun e2=>e (by rw[←e2];exact hs),hkeep p hs,hn⟩
 ·rcases X9 hs' with g|g
  ·exact h.small s g
  ·rw[g];exact hL
theorem q1d{X:List zr}{i:Nat}(hi:i<X.length):zt (X.map zr.shp) (i:Int)=X[i].shp:=by
 rw[QU (by rw[Xo];exact hi),List.getElem_map]
structure SeenS(m:za)(f:Int)(S:List zo):Prop where
 len:S.length=(zw m f).code.length
 first:(zt S 0).seen=true
 small:∀s ∈S,s.stack.length≤8
structure Jh(m:za)(f:Int)(S:List zo):Prop where
 grow:SeenS m f S
 done:∀pc,pc<S.length→qaz m f S pc
theorem qfe.set{m:za}{f:Int}{S:List zo}(h:qfe m f S):Jh m f S:=⟨⟨h.grow.len,h.grow.first,h.grow.small⟩,h.done⟩
def jh(sup:List Int)(s t:Int×Int):Int×Int:=if zA sup t.1 t.2 s.1 s.2=true then s else qB sup s.1 s.2 t.1 t.2
theorem VF{sup:List Int}{k n:Int}(h:zA sup k n k n=true):q1o sup k n:=fun e=>by
 subst e;rw[jW]at h;rcases h with⟨h,_⟩|⟨_,_,h⟩|⟨h,_,_⟩
 ·omega
 ·have:=vP h;omega
 ·omega
theorem qbo{sup:List Int}{k n k' n':Int}(h:(qB sup k n k' n').1=0):qB sup k n k' n'=(0,0):=by
 by_cases h1:zA sup k n k' n'=true
 ·have e:qB sup k n k' n'=(k',n'):=by unfold qB;rw[Xb h1]
  rw[e]at h;have:=(VL h1).2;dsimp only at h;omega
 ·by_cases h2:zA sup k' n' k n=true
  ·have e:qB sup k n k' n'=(k,n):=by unfold qB;rw[Xa h1,Xb h2]
   rw[e]at h;have:=(VL h2).2;dsimp only at h;omega
  ·by_cases h3:k=3∧k'=3
   ·have e:qB sup k n k' n'=jX ((zv sup n).drop 1) (zv sup n'):=by unfold qB;rw[Xa h1,Xa h2,Xb h3]
    obtain⟨rfl,rfl⟩:=h3;have a1:n' ∉zv sup n:=fun h=>h1 ((jW ..).mpr (.inr (.inl ⟨rfl,rfl,h⟩)));have a2:n ∉zv sup n':=fun h=>h2 ((jW ..).mpr (.inr (.inl ⟨rfl,rfl,h⟩)));rw[e]at h⊢
    rcases q3s a1 a2 with⟨e1,_⟩|⟨x,e1,_⟩
    ·exact e1
    ·rw[e1]at h;cases h
   ·unfold qB;rw[Xa h1,Xa h2,Xa h3]
theorem qkb{sup:List Int}{s t:Int×Int}(hs:zA sup s.1 s.2 s.1 s.2=true)(ht:zA sup t.1 t.2 t.1 t.2=true)(h:(jh sup s t).1=0):
  jh sup s t=(0,0)∧∀u:Int×Int,zA sup s.1 s.2 u.1 u.2=true→zA sup t.1 t.2 u.1 u.2=true→False:=by
 unfold jh at h⊢
 by_cases g:zA sup t.1 t.2 s.1 s.2=true
 ·rw[Xb g]at h;have:=(VL g).2;omega
 ·rw[Xa g]at h;rw[Xa g];refine⟨qbo h,fun u=> ?_⟩;rcases q8c (VF hs) (VF ht)with⟨_,q⟩|⟨q,_⟩
  ·exact q u.1 u.2
  ·exact absurd h q
theorem q50{sup:List Int}{s t:Int×Int}(hs:zA sup s.1 s.2 s.1 s.2=true)(ht:zA sup t.1 t.2 t.1 t.2=true)(h:¬(jh sup s t).1=0):
  zA sup s.1 s.2 (jh sup s t).1 (jh sup s t).2=true∧zA sup t.1 t.2 (jh sup s t).1 (jh sup s t).2=true∧
  ∀u:Int×Int,zA sup s.1 s.2 u.1 u.2=true→zA sup t.1 t.2 u.1 u.2=true→zA sup (jh sup s t).1 (jh sup s t).2 u.1 u.2=true:=by
 unfold jh at h⊢
 by_cases g:zA sup t.1 t.2 s.1 s.2=true
 ·rw[Xb g];exact⟨hs,g,fun u a _=>a⟩
 ·rw[Xa g]at h;rw[Xa g];rcases q8c (VF hs) (VF ht)with⟨q,_⟩|⟨_,q1,q2,q3⟩
  ·exact absurd q h
  ·exact⟨q1,q2,fun u=>q3 u.1 u.2⟩
def qK(sup:List Int):List (Int×Int)→List (Int×Int)→Nat→List (Int×Int)
 |s::ss,t::ts,k+1=>jh sup s t::qK sup ss ts k
 |ss,_,_=>ss
theorem q55(sup:List Int)(ss ts:List (Int×Int)):qK sup ss ts 0=ss:=by
 cases ss with
 |nil=>rfl
 |cons s ss=>
  cases ts with
  |nil=>rfl
  |cons t ts=>rfl
theorem Qv(sup:List Int):∀(ss ts:List (Int×Int)) (k:Nat),(qK sup ss ts k).length=ss.length
 | [],_,_=>by simp[qK]
 |s::ss,[],_=>by simp[qK]
 |s::ss,t::ts,0=>by rw[q55]
 |s::ss,t::ts,k+1=>by
  show(jh sup s t::qK sup ss ts k).length=_;rw[XJ,Qv sup ss ts k,XJ]
theorem VT(sup:List Int):∀(ss ts:List (Int×Int)) (k i:Nat) (h1:i<ss.length) (h2:i<ts.length),(qK sup ss ts k)[i]? =some (if i<k then jh sup ss[i] ts[i]else ss[i])
 | [],_,_,_,h,_=>by simp at h
 |s::ss,[],_,_,_,h=>by simp at h
 |s::ss,t::ts,0,i,h1,h2=>by
  rw[q55,Xa (Nat.not_lt_zero _),Xc h1]
 |s::ss,t::ts,k+1,0,h1,h2=>by
  rw[Xb (Nat.succ_pos _)];rfl
 |s::ss,t::ts,k+1,i+1,h1,h2=>by
  have h:=VT sup ss ts k i (by simpa using h1) (by simpa using h2);show(qK sup ss ts k)[i]? =_;rw[h];by_cases g:i<k
  ·rw[Xb g,Xb (Nat.succ_lt_succ g)];rfl
  ·rw[Xa g,Xa (by omega)];rfl
theorem qdu(sup:List Int){ss ts:List (Int×Int)}{k:Nat}(h1:k<ss.length)(h2:k<ts.length):(qK sup ss ts k)[k]? =some ss[k]:=by
 rw[VT sup ss ts k k h1 h2,Xa (Nat.lt_irrefl _)]
theorem qaa(sup:List Int){ss ts:List (Int×Int)}{k:Nat}(hl:ss.length=ts.length)(h1:k<ss.length)(h2:k<ts.length):qK sup ss ts (k+1)=(qK sup ss ts k).set k (jh sup ss[k] ts[k]):=by
 refine List.ext_getElem? fun i=> ?_;rcases Xk i ss.length with hi|hi
 ·rw[VT sup ss ts (k+1) i hi (by omega),Wc,VT sup ss ts k i hi (by omega)];by_cases e:k=i
  ·subst e;rw[Xb (Nat.lt_succ_self _),Xb rfl,Xb (by rw[Qv];exact h1)]
  ·rw[Xa e];by_cases g:i<k
   ·rw[Xb g,Xb (by omega)]
   ·rw[Xa g,Xa (by omega)]
 ·rw[Xv (by rw[Qv];exact hi),Xv (by rw[XI,Qv];exact hi)]
theorem qlu(sup:List Int){ss ts:List (Int×Int)}{k:Nat}(hl:ss.length=ts.length)(h1:k<ss.length)(h2:k<ts.length)(h:zA sup ts[k].1 ts[k].2 ss[k].1 ss[k].2=true):qK sup ss ts (k+1)=qK sup ss ts k:=by
 have e:jh sup ss[k] ts[k]=ss[k]:=by unfold jh;rw[Xb h]
 rw[qaa sup hl h1 h2,e];refine List.ext_getElem? fun i=> ?_;rw[Wc];by_cases q:k=i
 ·subst q;rw[Xb rfl,Xb (by rw[Qv];exact h1),qdu sup h1 h2]
 ·rw[Xa q]
theorem zG.trans'{sup:List Int}{a b c:List (Int×Int)}(h:zG sup a b)(g:zG sup b c):zG sup a c:=
 ⟨h.1.trans g.1,fun i h1 h2=>q4q (h.2 i h1 (by rw[←h.1];exact h1)) (g.2 i (by rw[←h.1];exact h1) h2)⟩
theorem q3i(sup:List Int):zG sup [] []:=⟨rfl,fun i h=>by simp at h⟩
def kG(t:Int×Int):Prop:=t.1=4→t.2=0
def vy(l:List (Int×Int)):Prop:=∀t ∈l,kG t
theorem qkc{sup:List Int}{s t:Int×Int}(hs:kG s)(ht:kG t):kG (qB sup s.1 s.2 t.1 t.2):=by
 unfold qB;split
 ·exact ht
 ·split
  ·exact hs
  ·split
   ·unfold kG;intro e;have h3:∀(a b:List Int),(jX a b).1=4→(jX a b).2=0:=by
     intro a b
     induction a with
     |nil=>intro _;rfl
     |cons x r ih=>
      unfold jX;split
      ·intro e;exact absurd e (show ¬(3:Int)=4 by decide)
      ·exact ih
    exact h3 _ _ e
   ·intro e;cases e
theorem qka{sup:List Int}{s t:Int×Int}(hs:kG s)(ht:kG t):kG (jh sup s t):=by
 unfold jh;split
 ·exact hs
 ·exact qkc hs ht
structure kE(sup:List Int)(s:zo)(st J:List (Int×Int))(grown:Bool):Prop where
 up:zG sup st J
 old:s.seen=true→zG sup s.stack J
 least:∀U,(s.seen=true→zG sup s.stack U)→zG sup st U→zG sup J U
 same:grown=false→s.seen=true∧J=s.stack
 more:grown=true→s.seen=true→¬zG sup J s.stack
 null:(s.seen=true→vy s.stack)→vy st→vy J
def q0b(sup:List Int)(s:zo)(st:List (Int×Int)):Prop:=s.seen=true∧∀U,zG sup s.stack U→zG sup st U→False
theorem qlt{sup:List Int}{s:zo}{st:List (Int×Int)}(h:s.seen=false)(hst:zG sup st st):kE sup s st st true:=
 ⟨hst,(fun e=>by rw[h]at e;cases e),fun U _ g=>g,(fun e=>by cases e),(fun _ e=>by rw[h]at e;cases e),fun _ q=>q⟩
theorem qqe{sup:List Int}{s:zo}{st:List (Int×Int)}(h:s.seen=true)(hl:¬st.length=s.stack.length):q0b sup s st:=⟨h,fun U g1 g2=>hl (g2.1.trans g1.1.symm)⟩
theorem qqd{sup:List Int}{s:zo}{st:List (Int×Int)}{i:Nat}(h:s.seen=true)(h1:i<s.stack.length)(h2:i<st.length)(hs:zG sup s.stack s.stack)(ht:zG sup st st)(hz:(jh sup s.stack[i] st[i]).1=0):q0b sup s st:=
 ⟨h,fun U g1 g2=>(qkb (hs.2 i h1 h1) (ht.2 i h2 h2) hz).2 U[i]! (by
  have hU:i<U.length:=by rw[←g1.1];exact h1
  rw[getElem!_pos U i hU];exact g1.2 i h1 hU) (by
  have hU:i<U.length:=by rw[←g1.1];exact h1
  rw[getElem!_pos U i hU];exact g2.2 i h2 hU)⟩
theorem qtl{sup:List Int}{s:zo}{st:List (Int×Int)}{grown:Bool}(h:s.seen=true)(hl:st.length=s.stack.length)(hs:zG sup s.stack s.stack)(ht:zG sup st st)
  (hz:∀(i:Nat) (h1:i<s.stack.length) (h2:i<st.length),¬(jh sup s.stack[i] st[i]).1=0)
  (hg0:grown=false→∀(i:Nat) (h1:i<s.stack.length) (h2:i<st.length),zA sup st[i].1 st[i].2 s.stack[i].1 s.stack[i].2=true)
  (hg1:grown=true→∃(i:Nat) (h1:i<s.stack.length) (h2:i<st.length),¬zA sup st[i].1 st[i].2 s.stack[i].1 s.stack[i].2=true):
  kE sup s st (qK sup s.stack st st.length) grown:=by
 have hlen:(qK sup s.stack st st.length).length=s.stack.length:=Qv ..;have hat:∀(i:Nat) (h1:i<s.stack.length) (h2:i<st.length) (h3:i<(qK sup s.stack st st.length).length),(qK sup s.stack st st.length)[i]=jh sup s.stack[i] st[i]:=fun i h1 h2 h3=>by
  have:=VT sup s.stack st st.length i h1 h2;rw[Xb h2,Xc h3]at this;exact Option.some.inj this
 have hup:zG sup st (qK sup s.stack st st.length):=⟨by rw[hlen,hl],fun i h1 h2=>by
  have h0:i<s.stack.length:=by omega
  rw[hat i h0 h1 h2];exact(q50 (hs.2 i h0 h0) (ht.2 i h1 h1) (hz i h0 h1)).2.1⟩
 refine⟨hup,fun _=>⟨hlen.symm,fun i h1 h2=> ?_⟩,fun U g1 g2=>⟨by rw[hlen];exact(g1 h).1,fun i h1 h2=> ?_⟩,fun e=>⟨h,?_⟩,fun e _ hf=> ?_,fun hn nt t ht'=> ?_⟩
 ·rw[hat i h1 (by omega) h2];exact(q50 (hs.2 i h1 h1) (ht.2 i (by omega) (by omega)) (hz i h1 (by omega))).1
 ·have h0:i<s.stack.length:=by omega
  have h3:i<st.length:=by omega
  rw[hat i h0 h3 h1];exact(q50 (hs.2 i h0 h0) (ht.2 i h3 h3) (hz i h0 h3)).2.2 _ ((g1 h).2 i h0 h2) (g2.2 i h3 h2)
 ·refine We hlen fun i h1 h2=> ?_;have h3:i<st.length:=by omega
  rw[hat i h2 h3 h1];unfold jh;rw[Xb (hg0 e i h2 h3)]
 ·obtain⟨i,h1,h2,hn⟩:=hg1 e;have h3:i<(qK sup s.stack st st.length).length:=by omega
  exact hn (q4q (hup.2 i h2 h3) (hf.2 i h3 h1))
 ·obtain⟨i,hi,rfl⟩:=Wl ht';have h0:i<s.stack.length:=by omega
  have h3:i<st.length:=by omega
  rw[hat i h0 h3 hi];exact qka (hn h _ (Xf _)) (nt _ (Xf _))
def Ym(n:Nat)(t:Int×Int):Nat:=if t.1=4 then max n 1 else if t.1=3 then t.2.toNat else 0
theorem qs1{sup:List Int}{a:Int×Int}(h:zA sup a.1 a.2 a.1 a.2=true):Ym sup.length a≤max sup.length 1:=by
 unfold Ym;by_cases h4:a.1=4
 ·rw[Xb h4];exact zn _
 ·rw[Xa h4];by_cases h3:a.1=3
  ·rw[Xb h3];have:=VF h h3;omega
  ·rw[Xa h3];exact Xp _
theorem qjh{sup:List Int}{a b:Int×Int}(h:zA sup a.1 a.2 b.1 b.2=true)(hb:zA sup b.1 b.2 b.1 b.2=true):Ym sup.length b≤Ym sup.length a∧(¬zA sup b.1 b.2 a.1 a.2=true→Ym sup.length b<Ym sup.length a):=by
 have ht:=VF hb;obtain⟨a1,a2⟩:=a;obtain⟨b1,b2⟩:=b;dsimp only at*
 unfold q1o at ht;unfold Ym;dsimp only;have h':=h;rw[jW]at h';rcases h' with⟨rfl,g⟩|⟨rfl,rfl,g⟩|⟨g,rfl,rfl⟩
 ·rw[Xb rfl];rcases g with rfl|rfl|rfl
  ·refine⟨?_,fun _=> ?_⟩
   ·rw[Xa (by decide),Xa (by decide)];omega
   ·rw[Xa (by decide),Xa (by decide)];omega
  ·have:=ht rfl;rw[Xa (by decide),Xb rfl];omega
  ·refine⟨by rw[Xb rfl];exact zn _,fun q=>absurd ((jW ..).mpr (.inl ⟨rfl,.inr (.inr rfl)⟩)) q⟩
 ·have hr:=vP g;rw[Xa (by decide),Xb rfl,Xa (by decide),Xb rfl];refine⟨by omega,fun q=> ?_⟩;have hne:¬b2=a2:=fun e=>q (by subst e;exact hb);omega
 ·exact⟨zn _,fun q=>absurd h q⟩
def Jb(n:Nat):List (Int×Int)→Nat
 | []=>0
 |t::ts=>Ym n t+Jb n ts
theorem q5r{sup:List Int}{a b:Int×Int}{s t:List (Int×Int)}:zG sup (a::s) (b::t)↔zA sup a.1 a.2 b.1 b.2=true∧zG sup s t:=by
 constructor
 ·intro h;refine⟨h.2 0 (Nat.succ_pos _) (Nat.succ_pos _),by simpa using h.1,fun i h1 h2=>h.2 (i+1) (Nat.succ_lt_succ h1) (Nat.succ_lt_succ h2)⟩
 ·rintro⟨h0,h⟩;refine⟨by rw[XJ,XJ,h.1],fun i h1 h2=> ?_⟩
  match i,h1,h2 with
  |0,_,_=>exact h0
  |i+1,h1,h2=>exact h.2 i (by simpa using h1) (by simpa using h2)
theorem qcw{sup:List Int}:∀{s:List (Int×Int)},zG sup s s→Jb sup.length s≤s.length*max sup.length 1
 | [],_=>by simp[Jb]
 |t::ts,h=>by
  rw[q5r]at h;have h1:=qs1 h.1;have h2:=qcw h.2;unfold Jb;rw[XJ,Nat.succ_mul];omega
theorem q9i{sup:List Int}:∀{s J:List (Int×Int)},zG sup s J→zG sup J J→Jb sup.length J≤Jb sup.length s∧(¬zG sup J s→Jb sup.length J<Jb sup.length s)
 | [],[],_,_=>⟨zn _,fun h=>absurd (q3i sup) h⟩
 | [],_::_,h,_=>by have:=h.1;simp at this
 |_::_,[],h,_=>by have:=h.1;simp at this
 |a::s,b::t,h,g=>by
  rw[q5r]at h g;obtain⟨a1,a2⟩:=qjh h.1 g.1;obtain⟨b1,b2⟩:=q9i h.2 g.2;unfold Jb;refine⟨by omega,fun q=> ?_⟩;rw[q5r]at q;by_cases e:zA sup b.1 b.2 a.1 a.2=true
  ·have:=b2 (fun f=>q ⟨e,f⟩);omega
  ·have:=a2 e;omega
def Qj(n:Nat)(s:zo):Nat:=if s.seen then Jb n s.stack+max n 1*(8 - s.stack.length)else 8*max n 1+1
def kf(n:Nat):List zo→Nat
 | []=>0
 |s::S=>Qj n s+kf n S
theorem qb7{n:Nat}{x:zo}:∀{S:List zo} {i:Nat} (h:i<S.length),Qj n x<Qj n S[i]→kf n (S.set i x)<kf n S
 | [],i,h,_=>by simp at h
 |s::S,0,h,g=>by
  show Qj n x+kf n S<Qj n s+kf n S;have g':Qj n x<Qj n s:=g;omega
 |s::S,i+1,h,g=>by
  show Qj n s+kf n (S.set i x)<Qj n s+kf n S;have:=qb7 (S:=S) (i:=i) (by simpa using h) g;omega
theorem qqc{sup:List Int}{s:zo}{st J:List (Int×Int)}(h:kE sup s st J true)(hJ:J.length≤8):Qj sup.length ⟨true,J⟩<Qj sup.length s:=by
 have hself:zG sup J J:=h.least J h.old h.up;unfold Qj;rw[Xb rfl];dsimp only;by_cases g:s.seen=true
 ·rw[Xb g];have h1:=(q9i (h.old g) hself).2 (h.more rfl g);have h2:=(h.old g).1;rw[h2];omega
 ·rw[Xa g];have h1:=qcw hself;have h2:J.length*max sup.length 1+max sup.length 1*(8 - J.length)=8*max sup.length 1:=by
   rw[Nat.mul_comm J.length,←Nat.mul_add,Nat.mul_comm 8];congr 1;omega
  omega
theorem qei{m:za}{S:List zo}{af:List (Int×Int)}{n:Int}:onB m S af n=true↔(zt S n).seen=true∧zG (zz m.classes) af (zt S n).stack:=by
 unfold onB;rw[Xr,q4o]
theorem q2w{m:za}{f pc:Int}{S:List zo}:kR m f S pc=true↔((zt S pc).seen=true→(zR m f pc (zt S pc).stack).err=0∧∀n ∈(zR m f pc (zt S pc).stack).next,(zt S n).seen=true∧zG (zz m.classes) (zR m f pc (zt S pc).stack).after (zt S n).stack):=by
 unfold kR goB;cases h:(zt S pc).seen
 ·simp
 ·rw[Bool.not_true,Bool.false_or,Xr,Xt,Xx];constructor
  ·intro g _;exact⟨g.1,fun n hn=>qei.mp (g.2 n hn)⟩
  ·intro g;obtain⟨g1,g2⟩:=g rfl;exact⟨g1,fun n hn=>qei.mpr (g2 n hn)⟩
theorem q2i{m:za}{f:Int}{R:List zo}:vv m f R=true↔(0<R.length∧R.length=(zw m f).code.length∧(zt R 0).seen=true∧(zt R 0).stack=[])∧∀pc:Nat,pc<R.length→kR m f R (pc:Int)=true:=by
 unfold vv q3u;rw[Xr,q15];simp only[Xr,Xt,List.length_eq_zero_iff]
structure vD(m:za)(f:Int)(S:List zo):Prop where
 len:S.length=(zw m f).code.length
 first:(zt S 0).seen=true∧(zt S 0).stack=[]
 self:∀s ∈S,zG (zz m.classes) s.stack s.stack
 small:∀s ∈S,s.stack.length≤8
 low:∀R,vv m f R=true→∀i:Nat,i<S.length→(zt S i).seen=true→(zt R i).seen=true∧zG (zz m.classes) (zt S i).stack (zt R i).stack
theorem VX{S:List zo}{i:Nat}(hi:i<S.length):zt S (i:Int) ∈S:=by
 rw[QU hi];exact Xf hi
theorem vD.right{m:za}{f:Int}{S R:List zo}(hm:zN m)(h:vD m f S)(hR:vv m f R=true){pc:Nat}(hp:pc<S.length)(hs:(zt S pc).seen=true):
  (zR m f pc (zt S pc).stack).err=0∧∀n ∈(zR m f pc (zt S pc).stack).next,(zt R n).seen=true∧zG (zz m.classes) (zR m f pc (zt S pc).stack).after (zt R n).stack:=by
 obtain⟨h1,h2⟩:=h.low R hR pc hp hs;obtain⟨⟨_,hl,_⟩,hall⟩:=q2i.mp hR;have hpR:pc<R.length:=by rw[hl,←h.len];exact hp
 obtain⟨g1,g2⟩:=q2w.mp (hall pc hpR) h1;obtain⟨e1,e2,e3⟩:=q4f hm h2 g1;exact⟨e1,fun n hn=>by
  rw[e2]at hn;obtain⟨a1,a2⟩:=g2 n hn;exact⟨a1,e3.trans' a2⟩⟩
theorem vD.none_err{m:za}{f:Int}{S:List zo}(hm:zN m)(h:vD m f S){pc:Nat}(hp:pc<S.length)(hs:(zt S pc).seen=true)(he:¬(zR m f pc (zt S pc).stack).err=0):∀R,vv m f R=false:=fun R=>by
 rw[Wa];intro hR;exact he (h.right hm hR hp hs).1
theorem vD.none_come{m:za}{f:Int}{S:List zo}(hm:zN m)(h:vD m f S){pc q:Nat}(hp:pc<S.length)(hq:q<S.length)(hs:(zt S pc).seen=true)(hn:(q:Int) ∈(zR m f pc (zt S pc).stack).next)
  (hb:q0b (zz m.classes) (zt S q) (zR m f pc (zt S pc).stack).after):∀R,vv m f R=false:=fun R=>by
 rw[Wa];intro hR;have h2:=(h.low R hR q hq hb.1).2;exact hb.2 _ h2 ((h.right hm hR hp hs).2 _ hn).2
theorem vD.put{m:za}{f:Int}{S:List zo}(hm:zN m)(h:vD m f S){pc q:Nat}{J:List (Int×Int)}{gr:Bool}(hp:pc<S.length)(hq:q<S.length)(hs:(zt S pc).seen=true)(hn:(q:Int) ∈(zR m f pc (zt S pc).stack).next)
  (hc:kE (zz m.classes) (zt S q) (zR m f pc (zt S pc).stack).after J gr) (h8:(zR m f pc (zt S pc).stack).after.length≤8):vD m f (S.set q ⟨true,J⟩):=by
 have hset:∀i:Nat,zt (S.set q ⟨true,J⟩) (i:Int)=if i=q then⟨true,J⟩else zt S (i:Int):=fun i=>q1c hq
 have hJ:zG (zz m.classes) J J:=hc.least J hc.old hc.up;refine⟨by rw[XI];exact h.len,?_,fun s hs'=> ?_,fun s hs'=> ?_,fun R hR i hi hsi=> ?_⟩
 ·have h0:=hset 0;by_cases e:0=q
  ·rw[Xb e]at h0;have hz:=hc.old (by rw[←e];exact h.first.1);rw[←e]at hz;have hl:=hz.1;have hf:(zt S ((0:Nat):Int)).stack=[]:=h.first.2;rw[hf]at hl;have hJ0:J=[]:=X6 hl.symm;have e2:zt (S.set q ⟨true,J⟩) 0=⟨true,J⟩:=h0;rw[e2];exact⟨rfl,hJ0⟩
  ·rw[Xa e]at h0;have e2:zt (S.set q ⟨true,J⟩) 0=zt S 0:=h0;rw[e2];exact h.first
 ·rcases X9 hs' with g|g
  ·exact h.self s g
  ·rw[g];exact hJ
 ·rcases X9 hs' with g|g
  ·exact h.small s g
  ·rw[g];show J.length≤8;rw[←hc.up.1];exact h8
 ·rw[XI]at hi;rw[hset]at hsi⊢
  by_cases e:i=q
  ·rw[Xb e];subst e;obtain⟨a1,a2⟩:=(h.right hm hR hp hs).2 _ hn;exact⟨a1,hc.least _ (fun g=>(h.low R hR i hi g).2) a2⟩
  ·rw[Xa e]at hsi⊢
   exact h.low R hR i hi hsi
theorem qo4{m:za}{f:Int}{S:List zo}{p q:Nat}{J st:List (Int×Int)}{gr:Bool}(hq:q<S.length)(hpq:p≠q)(h:kR m f S (p:Int)=true)(hN:∀n ∈(zR m f p (zt S p).stack).next,0≤n)
  (hc:kE (zz m.classes) (zt S q) st J gr):kR m f (S.set q ⟨true,J⟩) (p:Int)=true:=by
 have hset:∀i:Nat,zt (S.set q ⟨true,J⟩) (i:Int)=if i=q then⟨true,J⟩else zt S (i:Int):=fun i=>q1c hq
 rw[q2w]at h⊢
 rw[hset,Xa hpq];intro hs;obtain⟨h1,h2⟩:=h hs;refine⟨h1,fun n hn=> ?_⟩;obtain⟨g1,g2⟩:=h2 n hn;obtain⟨k,rfl⟩:=Xq (hN n hn);rw[hset];by_cases e:k=q
 ·rw[Xb e];subst e;exact⟨rfl,g2.trans' (hc.old g1)⟩
 ·rw[Xa e];exact⟨g1,g2⟩
theorem vD.done{m:za}{f:Int}{S:List zo}(h:vD m f S)(h0:0<S.length)(hd:∀pc:Nat,pc<S.length→kR m f S (pc:Int)=true):vv m f S=true:=q2i.mpr ⟨⟨h0,h.len,h.first⟩,hd⟩
theorem qqb{sup:List Int}{S:List zo}{q:Nat}{st J:List (Int×Int)}(hq:q<S.length)(hc:kE sup (zt S q) st J false):S.set q ⟨true,J⟩=S:=by
 obtain⟨h1,h2⟩:=hc.same rfl;have e:(⟨true,J⟩:zo)=S[q]:=by
  rw[←QU hq];have:zt S (q:Int)=⟨(zt S (q:Int)).seen,(zt S (q:Int)).stack⟩:=rfl;rw[this,h1,h2]
 rw[e];exact List.set_getElem_self hq
theorem qqf{m:za}{S:List zo}{q:Nat}{st J:List (Int×Int)}(hq:q<S.length)(hc:kE (zz m.classes) (zt S q) st J true)(h8:st.length≤8):kf (zz m.classes).length (S.set q ⟨true,J⟩)<kf (zz m.classes).length S:=
 qb7 hq (by
  rw[←QU hq];exact qqc hc (by rw[←hc.up.1];exact h8))
def q20(sup:List Int)(S R:List zo):Bool:=decide (S.length=R.length)&& (List.range S.length).all fun i=> !(zt S (i:Int)).seen||((zt R (i:Int)).seen&& q0d sup (zt S (i:Int)).stack (zt R (i:Int)).stack)
theorem q5j{sup:List Int}{S R:List zo}:q20 sup S R=true↔S.length=R.length∧∀i:Nat,i<S.length→(zt S i).seen=true→(zt R i).seen=true∧zG sup (zt S i).stack (zt R i).stack:=by
 unfold q20;rw[Xr,Xt,q15];constructor
 ·rintro⟨h1,h2⟩;refine⟨h1,fun i hi hs=> ?_⟩;have:=h2 i hi;rw[hs,Bool.not_true,Bool.false_or,Xr,q4o]at this;exact this
 ·rintro⟨h1,h2⟩;refine⟨h1,fun i hi=> ?_⟩;cases hs:(zt S (i:Int)).seen
  ·rfl
  ·obtain⟨g1,g2⟩:=h2 i hi hs;rw[g1,q4o.mpr g2];rfl
theorem vD.over{m:za}{f:Int}{S R:List zo}(h:vD m f S)(hR:vv m f R=true):q20 (zz m.classes) S R=true:=by
 rw[q5j];refine⟨?_,fun i hi hs=>h.low R hR i hi hs⟩;rw[h.len,(q2i.mp hR).1.2.1]
def overB(sup:List Int)(a b:List (List zo)):Bool:=decide (a.length=b.length)&& (List.range a.length).all fun f=>q20 sup (a[f]?.getD []) (b[f]?.getD [])
theorem q9h{m:za}{a:List (List zo)}:Jy m a=true↔a.length=m.methods.length∧∀f,f<a.length→vv m (f:Int) (a[f]?.getD [])=true:=by
 unfold Jy;rw[Xr,Xt,q15]
structure qfd(m:za)(a:List (List zo)):Prop where
 right:Jy m a=true
 least:∀b,Jy m b=true→overB (zz m.classes) a b=true
 small:∀S ∈a,∀s ∈S,s.stack.length≤8
theorem qfd.self{m:za}{a:List (List zo)}(h:qfd m a):overB (zz m.classes) a a=true:=h.least a h.right
structure ZQ(m:za)(f:Int)(S:List zo):Prop where
 right:vv m f S=true
 least:∀R,vv m f R=true→q20 (zz m.classes) S R=true
 small:∀s ∈S,s.stack.length≤8
 flat:∀s ∈S,vy s.stack∧(s.seen=false→s.stack=[])
theorem qhc{m:za}{f:Nat}(hf:f<m.methods.length)(h:∀R,vv m (f:Int) R=false):∀a,Jy m a=false:=fun a=>by
 rw[Wa];intro ha;obtain⟨h1,h2⟩:=q9h.mp ha;have:=h2 f (by omega);rw[h]at this;cases this
theorem qbl{m:za}{f:Int}{n:Nat}(hn:(zw m f).code.length=n+1):vD m f (⟨true,[]⟩::List.replicate n (⟨false,[]⟩:zo)):=by
 refine⟨by rw[hn];simp,⟨rfl,rfl⟩,fun s hs=> ?_,fun s hs=> ?_,fun R hR i hi hs=> ?_⟩
 ·rcases XA.mp hs with rfl|hs
  ·exact q3i _
  ·rw[(Wi.mp hs).2];exact q3i _
 ·rcases XA.mp hs with rfl|hs
  ·exact Xp _
  ·rw[(Wi.mp hs).2];exact Xp _
 ·match i,hi,hs with
  |0,_,_=>
   obtain⟨⟨_,_,h1,h2⟩,_⟩:=q2i.mp hR;refine⟨h1,?_⟩;have e:(zt R ((0:Nat):Int)).stack=[]:=h2;rw[e];exact q3i _
  |i+1,hi,hs=>
   rw[QU hi]at hs;have:(List.replicate n (⟨false,[]⟩:zo))[i]'(by simpa using hi)=⟨false,[]⟩:=List.getElem_replicate ..;have hs:((List.replicate n (⟨false,[]⟩:zo))[i]'(by simpa using hi)).seen=true:=hs;rw[this]at hs;cases hs
theorem kx{c:Prop}[Decidable c]{A B:List (Int×Int)}(hA:c→vy A)(hB:¬c→vy B):vy (if c then A else B):=by
 by_cases g:c
 ·rw[Xb g];exact hA g
 ·rw[Xa g];exact hB g
theorem Zn{t:Int×Int}(h:kG t):vy [t]:=fun u hu=>by rw[XL.mp hu];exact h
theorem q17{t:Int×Int}{n:Nat}(h:jn t.1 t.2 n=true):kG t:=fun e=>by
 unfold jn at h;rw[Xt]at h;omega
theorem qcv{m:za}{y:zh}(hy:q7q m y):vy (jO y):=by
 unfold jO;refine kx (fun _ t ht=>absurd ht (by simp)) (fun h5=>Zn ?_);rcases hy.rt with h|h
 ·rw[h]at h5;exact absurd rfl h5
 ·exact q17 h
theorem qpc{m:za}{x:zh}{f:Nat}{op a b:Int}(hm:zN m)(hg:m.methods[f]? =some x)(hi:qf op a b=true)(hn:zZ m x op a b=true):vy (jg m x op a b):=by
 obtain⟨o0,o1,a0,a1,b0,b1⟩:=Qr hi;have hx:=hm.method (Xs hg);have s1:kG (1,0):=fun e=>rfl;have s2:kG (2,0):=fun e=>rfl;have s4:kG (4,0):=fun e=>rfl;have s3:kG (3,a):=fun e=>by cases e
 unfold jg;refine kx (fun _=>Zn s1) (fun _=> ?_);refine kx (fun _=>Zn s4) (fun _=> ?_);refine kx (fun h=>Zn ?_) (fun _=> ?_)
 ·have hl:=q5k (.inl h) hn;unfold qM;rw[Xb a0];have hmem:=Jt (l:=x.args++x.locals) a0 (by rw[Xe];omega);rcases Xn.mp hmem with q|q
  ·exact q17 (hx.at_ _ q)
  ·exact q17 (hx.lt _ q)
 refine kx (fun _=>Zn s1) (fun _=> ?_);refine kx (fun _=>Zn s1) (fun _=> ?_);refine kx (fun h=>Zn s3) (fun _=> ?_);refine kx (fun _=>Zn s2) (fun _=> ?_);refine kx (fun _=>Zn s1) (fun _=> ?_);refine kx (fun _=>Zn s1) (fun _=> ?_);refine kx (fun h=>Zn (q17 (q4l hm (Jt b0 (q0s (.inl h) hn).2)))) (fun _=> ?_);refine kx (fun h=>Zn (q17 (hm.st _ (Jt a0 (q0q (.inl h) hn))))) (fun _=> ?_);refine kx (fun h=>Zn s3) (fun _=> ?_);refine kx (fun h=> ?_) (fun _=> ?_)
 ·subst h;have h1:=VI hn;have h2:a.toNat<m.methods.length:=by omega
  refine qcv (hm.method ?_);unfold zw;rw[Xc h2];exact Xf h2
 refine kx (fun h=> ?_) (fun _=> ?_)
 ·subst h;obtain⟨_,k,y,hk,hy,_⟩:=VH hm a0 b0 hn;refine qcv (hm.method ?_);unfold zw kY;rw[hk,Wb,Xi,hy];exact Xs hy
 refine kx (fun _=>Zn s1) (fun _=> ?_);exact fun t ht=>absurd ht (by simp)
theorem qar{m:za}{f pc:Int}{st:List (Int×Int)}(hm:zN m)(h:vy st)(e:(zR m f pc st).err=0):vy (zR m f pc st).after:=by
 unfold zR at e⊢
 by_cases g:0≤f∧f<m.methods.length∧0≤pc∧pc<(zw m f).code.length
 ·rw[Xb g]at e;rw[Xb g];cases hi:(zw m f).code[pc.toNat]? with
  |none=>rw[hi]at e;exact absurd e (show ¬(1:Int)=0 by decide)
  |some i=>
   rw[hi]at e;have hf:f.toNat<m.methods.length:=by omega
   have hg:m.methods[f.toNat]? =some (zw m f):=by unfold zw;rw[Xc hf];rfl
   have hx:=hm.method (Xs hg);have him:=Xs hi;have hgv:=qpc hm hg (hx.fits.ct _ him) (hx.co _ him);have e:(qX m (zw m f) pc i.1 i.2.1 i.2.2 st).err=0:=e;show vy (qX m (zw m f) pc i.1 i.2.1 i.2.2 st).after;have e4:¬(jf 4).err=0:=by unfold jf;decide
   unfold qX at e⊢
   split at e
   ·exact absurd e e4
   ·rename_i h1;rw[Xa h1];split at e
    ·exact absurd e e4
    ·rename_i h2;rw[Xa h2];split at e
     ·rename_i h3;rw[Xb h3];intro t ht;rcases Xn.mp ht with q|q
      ·exact h t (List.mem_of_mem_take q)
      ·unfold kI at q;by_cases h6:i.1=6∧st≠ []
       ·rw[Xb h6]at q;have hl:st.getLast?.getD (0,0) ∈st:=by
         rw[List.getLast?_eq_some_getLast h6.2];exact List.getLast_mem h6.2
        have ht:t=st.getLast?.getD (0,0):=by simpa using q
        rw[ht];exact h _ hl
       ·rw[Xa h6]at q;exact hgv t q
     ·exact absurd e e4
 ·rw[Xa g]at e;exact absurd e (show ¬(1:Int)=0 by decide)
theorem qrq{sup:List Int}{s t:Int×Int}(h:zA sup s.1 s.2 t.1 t.2=true)(g:zA sup t.1 t.2 s.1 s.2=true)(hs:kG s)(ht:kG t):s=t:=by
 obtain⟨s1,s2⟩:=s;obtain⟨t1,t2⟩:=t;rw[jW]at h g;dsimp only at h g;have a1:s1=4→s2=0:=hs;have a2:t1=4→t2=0:=ht;rcases h with⟨h1,h2⟩|⟨h1,h2,h3⟩|⟨h1,h2,h3⟩
 ·rcases g with⟨g1,_⟩|⟨g1,g2,_⟩|⟨g1,g2,_⟩
  ·rw[h1,g1,a1 h1,a2 g1]
  ·omega
  ·omega
 ·rcases g with⟨g1,_⟩|⟨_,_,g3⟩|⟨g1,g2,_⟩
  ·omega
  ·rw[h1,h2,qmm h3 g3]
  ·omega
 ·rw[h2,h3]
def q78(m:za)(f:Int)(L:List (Int×Int))(NL:List Int):Prop:=∀R,vv m f R=true→∀n ∈NL,(zt R n).seen=true∧zG (zz m.classes) L (zt R n).stack
theorem vD.putR{m:za}{f:Int}{S:List zo}(h:vD m f S){q:Nat}{L J:List (Int×Int)}{NL:List Int}{gr:Bool}(hq:q<S.length)(hr:q78 m f L NL)(hn:(q:Int) ∈NL)
  (hc:kE (zz m.classes) (zt S q) L J gr) (h8:L.length≤8):vD m f (S.set q ⟨true,J⟩):=by
 have hset:∀i:Nat,zt (S.set q ⟨true,J⟩) (i:Int)=if i=q then⟨true,J⟩else zt S (i:Int):=fun i=>q1c hq
 have hJ:zG (zz m.classes) J J:=hc.least J hc.old hc.up;refine⟨by rw[XI];exact h.len,?_,fun s hs'=> ?_,fun s hs'=> ?_,fun R hR i hi hsi=> ?_⟩
 ·have h0:=hset 0;by_cases e:0=q
  ·rw[Xb e]at h0;have hz:=hc.old (by rw[←e];exact h.first.1);rw[←e]at hz;have hl:=hz.1;have hf:(zt S ((0:Nat):Int)).stack=[]:=h.first.2;rw[hf]at hl;have hJ0:J=[]:=X6 hl.symm;have e2:zt (S.set q ⟨true,J⟩) 0=⟨true,J⟩:=h0;rw[e2];exact⟨rfl,hJ0⟩
  ·rw[Xa e]at h0;have e2:zt (S.set q ⟨true,J⟩) 0=zt S 0:=h0;rw[e2];exact h.first
 ·rcases X9 hs' with g|g
  ·exact h.self s g
  ·rw[g];exact hJ
 ·rcases X9 hs' with g|g
  ·exact h.small s g
  ·rw[g];show J.length≤8;rw[←hc.up.1];exact h8
 ·rw[XI]at hi;rw[hset]at hsi⊢
  by_cases e:i=q
  ·rw[Xb e];subst e;obtain⟨a1,a2⟩:=hr R hR _ hn;exact⟨a1,hc.least _ (fun g=>(h.low R hR i hi g).2) a2⟩
  ·rw[Xa e]at hsi⊢
   exact h.low R hR i hi hsi
structure Vp(m:za)(f:Int)(S:List zo):Prop where
 grow:q0n m f S
 low:vD m f S
 nul:∀s ∈S,vy s.stack
 dry:∀s ∈S,s.seen=false→s.stack=[]
 lens:∀k,(∃t ∈S,t.seen=true∧t.stack.length=k+1)→∃t ∈S,t.seen=true∧t.stack.length=k
def Zz(S:List zo)(k:Nat):Prop:=∃t ∈S,t.seen=true∧t.stack.length=k
def Lens(S:List zo):Prop:=∀k,Zz S (k+1)→Zz S k
theorem Lens.down{S:List zo}(h:Lens S){k:Nat}(hk:Zz S k):∀j,j≤k→Zz S j:=by
 induction k with
 |zero=>
  intro j hj;have:j=0:=by omega
  subst this;exact hk
 |succ k ih=>
  intro j hj;rcases Nat.eq_or_lt_of_le hj with e|q
  ·subst e;exact hk
  ·exact ih (h k hk) j (by omega)
theorem Zz.set{S:List zo}{q k:Nat}{x:zo}(hq:q<S.length)(hx:x.seen=true)(he:S[q].seen=true→x.stack.length=S[q].stack.length)(h:Zz S k):Zz (S.set q x) k:=by
 obtain⟨t,ht,hs,hl⟩:=h;obtain⟨i,hi,e⟩:=Wl ht;by_cases h1:i=q
 ·subst h1;exact⟨x,List.mem_iff_getElem.mpr ⟨i,by rw[XI];exact hi,by rw[List.getElem_set_self]⟩,hx,by rw[he (by rw[e];exact hs),e];exact hl⟩
 ·exact⟨t,List.mem_iff_getElem.mpr ⟨i,by rw[XI];exact hi,by rw[List.getElem_set_ne (fun z=>h1 z.symm)];exact e⟩,hs,hl⟩
theorem Lens.set{S:List zo}{q j:Nat}{x:zo}(h:Lens S)(hq:q<S.length)(hx:x.seen=true)(he:S[q].seen=true→x.stack.length=S[q].stack.length)(hn:S[q].seen=false→Zz S j∧x.stack.length≤j+1):Lens (S.set q x):=fun k hk=>by
 refine Zz.set hq hx he ?_;obtain⟨t,ht,hs,hl⟩:=hk;rcases X9 ht with g|g
 ·exact h k ⟨t,g,hs,hl⟩
 ·subst g;cases hsq:S[q].seen with
  |true=>exact h k ⟨S[q],Xf hq,hsq,by rw[←he hsq];exact hl⟩
  |false=>
   obtain⟨h1,h2⟩:=hn hsq;exact h.down h1 k (by omega)
theorem Zz.put{S:List zo}{q k:Nat}{sup:List Int}{L J:List (Int×Int)}{gr:Bool}(h:Zz S k)(hq:q<S.length)(hc:kE sup (zt S (q:Int)) L J gr):Zz (S.set q ⟨true,J⟩) k:=by
 have e:zt S (q:Int)=S[q]:=QU hq;rw[e]at hc;exact Zz.set hq rfl (fun hs=>(hc.old hs).1.symm) h
theorem Vp.start{m:za}{f:Int}{n:Nat}(h:q0n m f (⟨true,[]⟩::List.replicate n (⟨false,[]⟩:zo)))(hn:(zw m f).code.length=n+1):Vp m f (⟨true,[]⟩::List.replicate n (⟨false,[]⟩:zo)):=
 ⟨h,qbl hn,fun s hs=>by
  rcases XA.mp hs with rfl|hs
  ·exact fun t ht=>absurd ht (by simp)
  ·rw[(Wi.mp hs).2];exact fun t ht=>absurd ht (by simp),fun s hs _=>by
  rcases XA.mp hs with rfl|hs
  ·rfl
  ·rw[(Wi.mp hs).2],fun k ⟨t,ht,hs,hl⟩=>by
  rcases XA.mp ht with rfl|ht
  ·simp at hl
  ·rw[(Wi.mp ht).2]at hs;cases hs⟩
theorem Vp.put{m:za}{f:Int}{S:List zo}(h:Vp m f S){p q:Nat}{L J:List (Int×Int)}{NL:List Int}{gr:Bool}(hq:q<S.length)(hp:p<S.length)(hs:(zt S p).seen=true)(hn:(q:Int) ∈q7h m f p)(hr:q78 m f L NL)(hm:(q:Int) ∈NL)
  (hc:kE (zz m.classes) (zt S q) L J gr) (h8:L.length≤8) (hz:vy J) {j:Nat} (hj:Zz S j) (hlj:L.length≤j+1):Vp m f (S.set q ⟨true,J⟩):=
 ⟨h.grow.put hq hp hs hn (by rw[←hc.up.1];exact h8),h.low.putR hq hr hm hc h8,fun s hs'=>by
  rcases X9 hs' with g|g
  ·exact h.nul s g
  ·rw[g];exact hz,(fun s hs' hse=>by
   rcases X9 hs' with g|g
   ·exact h.dry s g hse
   ·rw[g]at hse;cases hse),by
  have e:zt S (q:Int)=S[q]:=QU hq;rw[e]at hc;exact Lens.set (S:=S) h.lens hq rfl (fun hs=>(hc.old hs).1.symm) (fun _=>⟨hj,by show J.length≤j+1;rw[←hc.up.1];exact hlj⟩)⟩
theorem Vp.step{m:za}{f:Int}{S:List zo}(hm:zN m)(h:Vp m f S){pc:Nat}{L:List (Int×Int)}{NL:List Int}(hp:pc<S.length)(hs:(zt S pc).seen=true)(e:zR m f pc (zt S pc).stack=⟨L,NL,0⟩):q78 m f L NL∧zG (zz m.classes) L L∧vy L:=by
 have hself:zG (zz m.classes) (zt S pc).stack (zt S pc).stack:=h.low.self _ (VX hp);have h1:=q4f (f:=f) (pc:=(pc:Int)) hm hself (by rw[e]);have h2:=qar (f:=f) (pc:=(pc:Int)) hm (h.nul _ (VX hp)) (by rw[e]);rw[e]at h1 h2;exact⟨fun R hR n hn=>by
  have:=(h.low.right hm hR hp hs).2 n (by rw[e];exact hn);rw[e]at this;exact this,h1.2.2,h2⟩
theorem qgm{sup:List Int}{a b:List (Int×Int)}(h:zG sup a b)(g:zG sup b a)(ha:vy a)(hb:vy b):a=b:=by
 refine We h.1 fun i h1 h2=> ?_;exact qrq (h.2 i h1 h2) (g.2 i h2 h1) (ha _ (Xf _)) (hb _ (Xf _))
theorem ZQ.uniq{m:za}{f:Int}{S R:List zo}(h:ZQ m f S)(g:ZQ m f R):S=R:=by
 obtain⟨e1,h1⟩:=q5j.mp (h.least R g.right);obtain⟨e2,h2⟩:=q5j.mp (g.least S h.right);refine We e1 fun i i1 i2=> ?_;have q1:=h1 i i1;have q2:=h2 i i2;rw[QU i1,QU i2]at q1 q2;have f1:=h.flat _ (Xf i1);have f2:=g.flat _ (Xf i2);generalize S[i]=s at*
 generalize R[i]=r at*
 obtain⟨sb,st⟩:=s;obtain⟨rb,rt⟩:=r;dsimp only at q1 q2 f1 f2;cases sb
 ·cases rb
  ·rw[f1.2 rfl,f2.2 rfl]
  ·have:=(q2 rfl).1;cases this
 ·have hr:=(q1 rfl).1;subst hr;rw[qgm (q1 rfl).2 (q2 rfl).2 f1.1 f2.1]
def QH(w:World)(B:Nat)(x:zr):Prop:=∃gi rest,x.A=some ⟨gi,0,none⟩∧B≤gi∧zd w gi (qk x.stack++rest) 50
structure jR(w:World)(B g:Nat)(X:List zr):Prop where
 out:qS w g X
 base:B≤g
 own:∀i (hi:i<X.length),X[i].stack≠ []→QH w B X[i]
 apart:∀i j (hi:i<X.length) (hj:j<X.length),i≠j→X[i].stack≠ []→X[j].stack≠ []→X[i].A≠X[j].A
def JG(B:Nat)(X:List zr):Prop:=∀x ∈X,x.stack≠ []→∀ad,x.A=some ad→B≤ad.block
theorem jR.news{w:World}{B g:Nat}{X:List zr}(h:jR w B g X):JG B X:=fun x hx hn ad e=>by
 obtain⟨i,hi,rfl⟩:=Wl hx;obtain⟨gi,_,e2,h2,_⟩:=h.own i hi hn;rw[e]at e2;injection e2 with e2;subst e2;exact h2
theorem JG.more{B C:Nat}{X:List zr}(h:JG C X)(hb:B≤C):JG B X:=fun x hx hn ad e=>Xd hb (h x hx hn ad e)
theorem zd.otherT{w:World}{g:Nat}{vs:List Value}{T:TypeId}(h:zd w g vs T){a:Addr}(ha:g≠a.block)(v:Value):zd (w.setCell a v) g vs T:=(Below.heap_setCell w a v g ha).trans h
theorem zd.type_eq{w:World}{g:Nat}{vs us:List Value}{T U:TypeId}(h:zd w g vs T)(h':zd w g us U):T=U:=by
 unfold zd at h h';rw[h]at h';injection h' with h';injection h'
theorem q4s{w:World}{g:Nat}{vs us:List Value}(h:zd w g vs 75)(h':zd w g us 50):False:=absurd (h.type_eq h') (by decide)
theorem QH.keep{w w':World}{B:Nat}{x:zr}(h:QH w B x)(hb:Below w.heap.size w w'):QH w' B x:=by
 obtain⟨gi,rest,h1,h2,h3⟩:=h;exact⟨gi,rest,h1,h2,h3.keep hb h3.lt⟩
theorem jR.keep{w w':World}{B g:Nat}{X:List zr}(h:jR w B g X)(hb:Below w.heap.size w w'):jR w' B g X:=
 ⟨h.out.keep hb,h.base,fun i hi hn=>(h.own i hi hn).keep hb,h.apart⟩
theorem QH.lt{w:World}{B:Nat}{x:zr}(h:QH w B x):∃gi,x.A=some ⟨gi,0,none⟩∧gi<w.heap.size:=by
 obtain⟨gi,rest,h1,h2,h3⟩:=h;exact⟨gi,h1,h3.lt⟩
theorem Vi{α:Type}{X:List α}{i j:Nat}{x:α}(hi:i<X.length)(hj:j<(X.set i x).length):(X.set i x)[j]=if i=j then x else X[j]'(by rw[XI]at hj;exact hj):=by
 rw[List.getElem_set]
theorem jR.put{w0 w:World}{B g i:Nat}{X:List zr}{x:zr}(h:jR w0 B g X)(hb:Below w0.heap.size w0 w)(hB:B≤w0.heap.size)(hi:i<X.length)(hx:ze zc 2 w w.heap.size x.A x.c x.stack)
  (hn:x.stack≠ []→QH w w0.heap.size x):jR (ZX w g i x) B g (X.set i x):=by
 have hk:=h.keep hb;have hown:∀{y:zr} {C:Nat},QH w C y→QH (ZX w g i x) C y:=fun {y C} q=>by
  obtain⟨gi,rest,h1,h2,h3⟩:=q;have hne:gi≠g:=fun e=>by subst e;exact q4s hk.out.blk h3
  exact⟨gi,rest,h1,h2,(h3.otherT hne _).otherT hne _⟩
 have hB':∀{y:zr},QH (ZX w g i x) w0.heap.size y→QH (ZX w g i x) B y:=fun {y} ⟨gi,rest,h1,h2,h3⟩=>⟨gi,rest,h1,Xd hB h2,h3⟩
 have hfar:x.stack≠ []→∀j (hj:j<X.length),X[j].stack≠ []→x.A≠X[j].A:=fun q j hj q2 e=>by
  obtain⟨gi,rest,h1,h2,h3⟩:=hn q;obtain⟨gj,e2,h4⟩:=(h.own j hj q2).lt;rw[h1,e2]at e;injection e with e;injection e with e;omega
 refine⟨hk.out.put hi hx,h.base,fun j hj q=> ?_,fun j k hj hk' hjk q1 q2=> ?_⟩
 ·rw[Vi hi hj]at q⊢
  by_cases e:i=j
  ·rw[Xb e]at q⊢
   exact hB' (hown (hn q))
  ·rw[Xa e]at q⊢
   exact hown (hk.own j _ q)
 ·rw[Vi hi hj]at q1⊢
  rw[Vi hi hk']at q2⊢
  by_cases e:i=j
  ·rw[Xb e]at q1⊢
   rw[Xa (fun e2=>hjk (e.symm.trans e2))]at q2⊢
   exact hfar q1 k _ q2
  ·rw[Xa e]at q1⊢
   by_cases e2:i=k
   ·rw[Xb e2]at q2⊢
    exact fun e3=>hfar q2 j _ q1 e3.symm
   ·rw[Xa e2]at q2⊢
    exact h.apart j k _ _ hjk q1 q2
theorem qcn:∀(L:List (Int×Int)) (k:Nat) (t:Int×Int) (rest:List Value),k<L.length→((qk L++rest).set (k*2) (.int .i64 t.1)).set (k*2+1) (.int .i64 t.2)=qk (L.set k t)++rest
 | [],k,t,rest,h=>by simp at h
 |a::L,0,t,rest,h=>rfl
 |a::L,k+1,t,rest,h=>by
  have:=qcn L k t rest (by simpa using h);show((tyC a++qk L++rest).set _ _).set _ _=tyC a++qk (L.set k t)++rest;rw[Xu,Xu,←this,show(k+1)*2=k*2+2 by omega];rfl
theorem qmr{w:World}{gi c:Nat}{L:List (Int×Int)}{rest:List Value}(h:zd w gi (qk L++rest) 50)(hc:L.length≤c)(hm:c≤9223372036854775807):ze zc 2 w w.heap.size (some ⟨gi,0,none⟩) c L:=
 ⟨hc,hm,fun i t hi=>by
  have hlt:i<L.length:=by
   rcases Xk i L.length with q|q
   ·exact q
   ·rw[Xv q]at hi;cases hi
  have hl:(qk L).length=L.length*2:=JU L;have e0:=Zo (f:=tyC) (k:=2) (fun _=>rfl) L i 0 t hi (by decide);have e1:=Zo (f:=tyC) (k:=2) (fun _=>rfl) L i 1 t hi (by decide);have c0:=h.cells (i*2) _ (by rw[XN (by omega)];exact e0);have c1:=h.cells (i*2+1) _ (by rw[XN (by omega)];exact e1);have ea:(Addr.add ⟨gi,0,none⟩ (i*2))=⟨gi,i*2,none⟩:=by
   unfold Addr.add;split
   ·rename_i h0;rw[h0]
   ·simp
  exact⟨_,rfl,h.lt,by rw[ea];exact c0,by rw[ea];exact c1⟩⟩
theorem st_at{w:World}{gi k:Nat}{L:List (Int×Int)}{rest:List Value}(h:zd w gi (qk L++rest) 50)(hk:k<L.length):w.cell? ⟨gi,k*2,none⟩=some (.int .i64 L[k].1)∧w.cell? ⟨gi,k*2+1,none⟩=some (.int .i64 L[k].2):=by
 have hl:(qk L).length=L.length*2:=JU L;have hi:L[k]? =some L[k]:=Xc hk;have e0:=Zo (f:=tyC) (k:=2) (fun _=>rfl) L k 0 _ hi (by decide);have e1:=Zo (f:=tyC) (k:=2) (fun _=>rfl) L k 1 _ hi (by decide);exact⟨h.cells (k*2) _ (by rw[XN (by omega)];exact e0),h.cells (k*2+1) _ (by rw[XN (by omega)];exact e1)⟩
theorem qay:∀(X:List zr) (i:Nat) (x:zr) (hi:i<X.length),x.seen=X[i].seen→x.A=X[i].A→x.c=X[i].c→x.stack.length=X[i].stack.length→ZD (X.set i x)=ZD X
 | [],i,x,hi,_,_,_,_=>by simp at hi
 |y::X,0,x,hi,h1,h2,h3,h4=>by
  show ZW x++ZD X=ZW y++ZD X;have h1:x.seen=y.seen:=h1;have h2:x.A=y.A:=h2;have h3:x.c=y.c:=h3;have h4:x.stack.length=y.stack.length:=h4;unfold ZW;rw[h1,h2,h3,h4]
 |y::X,i+1,x,hi,h1,h2,h3,h4=>by
  show ZW y++ZD (X.set i x)=ZW y++ZD X;rw[qay X i x (by simpa using hi) h1 h2 h3 h4]
abbrev Yj(w:World)(gi k:Nat)(t:Int×Int):World:=(w.setCell ⟨gi,k*2,none⟩ (.int .i64 t.1)).setCell ⟨gi,k*2+1,none⟩ (.int .i64 t.2)
theorem q4p(w:World)(gi k:Nat)(t:Int×Int):∀b,b≠gi→(Yj w gi k t).heap[b]? =w.heap[b]? :=fun b hb=>by
 unfold Yj;rw[Below.heap_setCell _ _ _ b hb,Below.heap_setCell _ _ _ b hb]
theorem q11(w:World)(gi k:Nat)(t:Int×Int):∀q:Addr,q.block≠gi→(Yj w gi k t).cell? q=w.cell? q:=fun q hq=>XX (q4p w gi k t _ hq)
theorem jR.turn{w:World}{B g i gi k:Nat}{X:List zr}{t:Int×Int}{y:zr}(h:jR w B g X)(hi:i<X.length)(hy:X[i]=y)(hk:k<y.stack.length)(eA:y.A=some ⟨gi,0,none⟩):
  jR (Yj w gi k t) B g (X.set i ⟨y.seen,y.A,y.c,y.stack.set k t⟩):=by
 subst hy;have hne:X[i].stack≠ []:=fun e=>by rw[e]at hk;simp at hk
 obtain⟨gi',rest,e1,hB,hw⟩:=h.own i hi hne;rw[eA]at e1;obtain rfl:gi=gi':=by injection e1 with e1;injection e1
 have hgg:g≠gi:=fun e=>by subst e;exact q4s h.out.blk hw
 have hz:(Yj w gi k t).heap.size=w.heap.size:=by simp[Yj]
 have hw2:zd (Yj w gi k t) gi (qk (X[i].stack.set k t)++rest) 50:=by
  have:=(hw.set (k*2) (.int .i64 t.1)).set (k*2+1) (.int .i64 t.2);rw[qcn _ _ _ _ hk]at this;exact this
 have hsl:=h.out.row _ (Xf hi);have hfar:∀j (hj:j<X.length),i≠j→X[j].stack≠ []→∀ad,X[j].A=some ad→ad.block≠gi:=fun j hj hij q ad ea eb=>by
  obtain⟨gj,rj,e2,_,_⟩:=h.own j hj q;rw[e2]at ea;injection ea with ea;subst ea;dsimp only at eb;subst eb;exact h.apart i j hi hj hij hne q (eA.trans e2.symm)
 refine⟨⟨?_,fun z hz'=> ?_⟩,h.base,fun j hj q=> ?_,fun j l hj hl hjl q1 q2=> ?_⟩
 ·rw[qay X i ⟨X[i].seen,X[i].A,X[i].c,X[i].stack.set k t⟩ hi rfl rfl rfl (by simp)];exact(h.out.blk.otherT (a:=⟨gi,k*2,none⟩) hgg _).otherT (a:=⟨gi,k*2+1,none⟩) hgg _
 ·obtain⟨j,hj,rfl⟩:=Wl hz';rw[Vi hi hj];by_cases e:i=j
  ·rw[Xb e];dsimp only;rw[eA];exact qmr hw2 (by rw[XI];exact hsl.le) hsl.cap
  ·rw[Xa e];have hj':j<X.length:=by rw[XI]at hj;exact hj
   by_cases q:X[j].stack=[]
   ·have:=h.out.row _ (Xf hj');exact⟨this.le,this.cap,fun a b hb=>by rw[q]at hb;simp at hb⟩
   ·exact q1a (g:=gi) (h.out.row _ (Xf hj')) (by rw[hz];exact zn _) (q11 w gi k t) (fun a ha ad ea=>hfar j hj' e q ad ea)
 ·rw[Vi hi hj]at q⊢
  by_cases e:i=j
  ·rw[Xb e];exact⟨gi,rest,eA,hB,hw2⟩
  ·rw[Xa e]at q⊢
   have hj':j<X.length:=by rw[XI]at hj;exact hj
   obtain⟨gj,rj,e2,h2,h3⟩:=h.own j hj' q;have:=hfar j hj' e q _ e2;exact⟨gj,rj,e2,h2,(q4p w gi k t gj this).trans h3⟩
 ·have hs:∀a (ha:a<(X.set i ⟨X[i].seen,X[i].A,X[i].c,X[i].stack.set k t⟩).length),∃ha':a<X.length,(X.set i ⟨X[i].seen,X[i].A,X[i].c,X[i].stack.set k t⟩)[a].A=X[a].A∧((X.set i ⟨X[i].seen,X[i].A,X[i].c,X[i].stack.set k t⟩)[a].stack≠ []→X[a].stack≠ []):=fun a ha=>by
   have ha':a<X.length:=by rw[XI]at ha;exact ha
   refine⟨ha',?_⟩;rw[Vi hi ha];by_cases e:i=a
   ·subst e;rw[Xb rfl];exact⟨rfl,fun _=>hne⟩
   ·rw[Xa e];exact⟨rfl,fun q=>q⟩
  obtain⟨hj',ej,nj⟩:=hs j hj;obtain⟨hl',el,nl⟩:=hs l hl;rw[ej,el];exact h.apart j l hj' hl' hjl (nj q1) (nl q2)
theorem quh{w w':World}{B c:Nat}{A:Option Addr}{L:List (Int×Int)}(h:ze zc 2 w B A c L)(hz:B≤w'.heap.size)(hb:∀ad,A=some ad→w'.heap[ad.block]? =w.heap[ad.block]?):ze zc 2 w' w'.heap.size A c L:=
 ⟨h.le,h.cap,fun i t hi=>by
  obtain⟨ad,e,h1,h2,h3⟩:=h.row i t hi;have:=hb ad e;refine⟨ad,e,Xj h1 hz,(XX (w:=w) (by rw[zu];exact this)).trans h2,(XX (w:=w) (by show w'.heap[(ad.add _).block]? =_;rw[zu];exact this)).trans h3⟩⟩
theorem qsw{w w':World}{B c:Nat}{A:Option Addr}{L:List Int}(h:ze zl 1 w B A c L)(hz:B≤w'.heap.size)(hb:∀ad,A=some ad→w'.heap[ad.block]? =w.heap[ad.block]?):ze zl 1 w' w'.heap.size A c L:=
 ⟨h.le,h.cap,fun i t hi=>by
  obtain⟨ad,e,h1,h2⟩:=h.row i t hi;have:=hb ad e;exact⟨ad,e,Xj h1 hz,(XX (w:=w) (by rw[zu];exact this)).trans h2⟩⟩
def qey(L:List Int)(w:World)(e:Ending)(w':World):Prop:=∃A c,e= .returned (.slice A L.length c)∧ze zl 1 w' w'.heap.size A c L∧(∀ad,A=some ad→w.heap.size≤ad.block)∧Below w.heap.size w w'
theorem qel{w:World}{g:Nat}{p q:Int}(hg:g<w.heap.size)(h0:w.cell? ⟨g,0,none⟩=some (.int .i64 p))(h1:w.cell? ⟨g,1,none⟩=some (.int .i64 q)):ze zl 1 w w.heap.size (some ⟨g,0,none⟩) 2 [p,q]:=
 ⟨zn _,by omega,fun i t hi=>by
  match i,hi with
  |0,hi=>simp at hi;subst hi;exact⟨_,rfl,hg,h0⟩
  |1,hi=>simp at hi;subst hi;exact⟨_,rfl,hg,(show w.cell? _=_ by simpa[Addr.add]using h1)⟩
  |i+2,hi=>simp at hi⟩
theorem qpr(op a b:Int)(pc:Nat)(hpc:pc≤1000000)(w:World):
  Calls Tryz.prog 136 #[zF op a b,.int .i64 pc] w (qey (qU pc op a) w):=by
 have hw1:IntKind.i64.wrap ((pc:Int)+1)=(pc:Int)+1:=IntWalk.i64_in _ (by omega);by_cases h18:op=18
 ·subst h18;have e:qU (pc:Int) 18 a=[a]:=rfl;rw[e];clear e;go_enter Tryz.func136,Tryz.ntmps136;go_wp2_with fail
  go_ret;exact⟨_,_,rfl,q3m (by simp) (by go_simp),(fun ad e=>by injection e with e;subst e;simp),((zb _ _).alloc (zn _) _).alloc (by simp) _⟩
 ·by_cases h19:op=19
  ·subst h19;have e:qU (pc:Int) 19 a=[(pc:Int)+1,a]:=rfl;rw[e];clear e;go_enter Tryz.func136,Tryz.ntmps136;go_wp2_with fail
   go_ret;exact⟨_,_,rfl,qel (by simp) (by go_simp) (by go_simp),(fun ad e=>by injection e with e;subst e;simp),((zb _ _).alloc (zn _) _).alloc (by simp) _⟩
  ·by_cases h33:op=33
   ·subst h33;have e:qU (pc:Int) 33 a=[]:=rfl;rw[e];clear e;go_enter Tryz.func136,Tryz.ntmps136;go_wp2_with fail
    go_ret;exact⟨_,_,rfl,kv,(fun ad e=>by cases e),(zb _ _).alloc (zn _) _⟩
   ·have e:qU (pc:Int) op a=[(pc:Int)+1]:=by unfold qU;rw[Xa h18,Xa h19,Xa h33]
    rw[e];clear e;go_enter Tryz.func136,Tryz.ntmps136;go_wp2_with fail
    go_ret;exact⟨_,_,rfl,q3m (by simp) (by go_simp),(fun ad e=>by injection e with e;subst e;simp),((zb _ _).alloc (zn _) _).alloc (by simp) _⟩
theorem qpq{op a b:Int}{pc:Nat}{w:World}{L:List Int}(HL:Hid (qU pc op a=L))(hpc:pc≤1000000):
  Calls Tryz.prog 136 #[zF op a b,.int .i64 pc] w (qey L w):=by
 have H:=qpr op a b pc hpc w;rw[HL.out]at H;exact H
def ZZ(n:Int)(l:List Int):Bool:=l.any fun x=>decide (n≤x)
abbrev qf6(N:Nat):Value:= .func (.func 170) #[] #[.pointer (some ⟨N,0,none⟩)]
theorem qi0(x n:Int)(N:Nat)(w:World)(hc:w.cell? ⟨N,0,none⟩=some (.int .i64 n)):
  Calls Tryz.prog 170 #[.int .i64 x,.pointer (some ⟨N,0,none⟩)] w fun e w'=>e= .returned (.bool (decide (n≤x)))∧w'=w:=by
 go_enter Tryz.func170,Tryz.ntmps170;go_wp2_with fail
 go_ret;exact⟨rfl,rfl⟩
theorem qa3{x n:Int}{N:Nat}{w:World}{r:Bool}(hc:w.cell? ⟨N,0,none⟩=some (.int .i64 n))(HR:Hid (decide (n≤x)=r)):
  Calls Tryz.prog 170 #[.int .i64 x,.pointer (some ⟨N,0,none⟩)] w fun e w'=>e= .returned (.bool r)∧w'=w:=by
 have H:=qi0 x n N w hc;rw[HR.out]at H;exact H
theorem qu2{f:Int→Bool}{l:List Int}{k:Nat}(hk:k<l.length)(h:(l.take k).any f=false)(hx:f l[k]=false):(l.take (k+1)).any f=false:=by
 rw[List.take_succ_eq_append_getElem hk,List.any_append,h];simp[hx]
theorem any_at{f:Int→Bool}{l:List Int}{k:Nat}(hk:k<l.length)(hx:f l[k]=true):l.any f=true:=X7.mpr ⟨_,Xf hk,hx⟩
theorem ql3(l:List Int)(n:Int)(N:Nat)(A:Option Addr)(c:Nat)(w:World)(hc:w.cell? ⟨N,0,none⟩=some (.int .i64 n))(h:ze zl 1 w w.heap.size A c l):
  Calls Tryz.prog 193 #[.slice A l.length c,qf6 N] w fun e w'=>∃z:Int,e= .returned (.int .i64 z)∧decide (z ≥ 0)=ZZ n l∧w'=w:=by
 have hle:=h.le;have hcap:=h.cap;have HS:=zH h;clear h;go_enter Tryz.func193,Tryz.ntmps193;go_wp2_with fail
 go_loopw [8] (fun i wr=>∃k:Nat,k≤l.length∧i= .int .i64 k∧Hid (ZZ n (l.take k)=false)∧wr=w) (fun i _=>l.length - (intOf i).toNat)
 case atStart=>exact⟨0,by omega,rfl,zH rfl,rfl⟩
 case round=>
  obtain⟨k,hk,rfl,HA,rfl⟩:=hrel;by_cases hlt:k<l.length
  ·obtain⟨ad,rfl,hab,hcz⟩:=HS.out.row.at_ hlt;have hcz:wr.cell? (ad.add k)=some (.int .i64 l[k]):=by have:=hcz;rw[Xz]at this;exact this
   obtain⟨r,hr⟩:∃r,decide (n≤l[k])=r:=⟨_,rfl⟩
   have HR:=zH hr;cases r
   ·have HA2:Hid (ZZ n (l.take (k+1))=false):=zH (qu2 hlt HA.out hr);clear hr;go_wp2_with(go_at_call 170;(with_reducible refine(qa3 hc HR).mono ?_);rintro e w1 ⟨rfl,rfl⟩)
    go_roundw;case rel=>exact⟨k+1,by omega,by go_num,HA2,trivial⟩
    case measure=>simp[intOf];omega
   ·have HA2:Hid (ZZ n l=true):=zH (any_at hlt hr);clear hr;go_wp2_with(go_at_call 170;(with_reducible refine(qa3 hc HR).mono ?_);rintro e w1 ⟨rfl,rfl⟩)
    go_ret;exact⟨_,rfl,by rw[HA2.out];simp,rfl⟩
  ·have HA2:Hid (ZZ n l=false):=zH (by have:=HA.out;rwa [XK (by omega)]at this);go_wp2_with fail
   go_ret;exact⟨_,rfl,by rw[HA2.out];rfl,rfl⟩
theorem qg5(l:List Int)(n:Int)(N:Nat)(A:Option Addr)(c:Nat)(w:World)(hc:w.cell? ⟨N,0,none⟩=some (.int .i64 n))(h:ze zl 1 w w.heap.size A c l):
  Calls Tryz.prog 169 #[.slice A l.length c,qf6 N] w fun e w'=>e= .returned (.bool (ZZ n l))∧w'=w:=by
 have HS:=zH h;have HC:=zH hc;clear h hc;go_enter Tryz.func169,Tryz.ntmps169;go_wp2_with(go_at_call 193;(with_reducible refine(ql3 l n N A c _ HC.out HS.out).mono ?_);rintro e w1 ⟨z,rfl,hz,rfl⟩;have HZ:=zH hz;clear hz)
 go_ret;exact⟨by rw[←HZ.out];rfl,rfl⟩
theorem qhz(l:List Int)(n:Int)(A:Option Addr)(c:Nat)(w:World)(h:ze zl 1 w w.heap.size A c l):
  Calls Tryz.prog 137 #[.slice A l.length c,.int .i64 n] w fun e w'=>e= .returned (.bool (ZZ n l))∧Below w.heap.size w w':=by
 have hA:Below w.heap.size w (w.alloc (.cells #[.int .i64 n] 3)):=(zb _ _).alloc (zn _) _;have HA:=zH hA;have HS:=zH ((h.below_to zl.keeps hA (zn _)).keep' zl.keeps hA.size (fun _ _=>rfl));have HC:=zH (qr w [.int .i64 n] 3);clear h hA;go_enter Tryz.func137,Tryz.ntmps137;go_upto_region 1 with fail
 generalize w.alloc (.cells #[.int .i64 n] 3)=w1 at*
 have c0:=HC.out 0 _ rfl;go_wp2_with(go_at_call 169;(with_reducible refine(qg5 l n w.heap.size A c w1 c0 HS.out).mono ?_);rintro e w2 ⟨rfl,rfl⟩)
 go_ret;exact⟨rfl,HA.out⟩
theorem qa2{l:List Int}{n:Int}{A:Option Addr}{c:Nat}{w:World}{r:Bool}(h:ze zl 1 w w.heap.size A c l)(HR:Hid (ZZ n l=r)):
  Calls Tryz.prog 137 #[.slice A l.length c,.int .i64 n] w fun e w'=>e= .returned (.bool r)∧Below w.heap.size w w':=by
 have H:=qhz l n A c w h;rw[HR.out]at H;exact H
def zE(m:za)(x:zh)(op a b:Int):List (Int×Int):=
 if op=4 then [qM x a]else if op=5∨op=6 then [(6,0)]else if op=19∨op=23 then [(1,0)]else if op=20 then [(7,0)]else if op=21 then [(7,0),(7,0)]else
 if op=24 then [(2,0),(1,0)]else if op=25 then [(2,0),(1,0),(1,0)]else if op=26 then [(2,0)]else if op=27 then [(3,a)]else if op=28 then [(3,a),JA m a b]else
 if op=30 then [Jr m a]else if op=31 then(zw m a).args else if op=32 then(3,a)::(zw m (kY m a b)).args.drop 1 else if op=33 then jO x else if op=34 then [(8,0)]else
 if 7≤op∧op≤17 then [(1,0),(1,0)]else []
def zV(m:za)(x:zh)(op a b:Int)(tk:List (Int×Int)):List (Int×Int):=if op=6 then tk++tk else jg m x op a b
abbrev qz(h:zi)(m:za)(op a b:Int)(w:World):World:=(qu h m op a b w).alloc (.cells #[.int .i64 op,.int .i64 a,.int .i64 b] 55)
structure q77(w2:World)(N:Nat)(h:zi)(m:za)(op a b:Int):Prop where
 img:Zy w2 N h m
 ins:zW w2 (N+1) [.int .i64 op,.int .i64 a,.int .i64 b]
 fn:zW w2 (N+1+1) [.int .i64 op,.int .i64 a,.int .i64 b]
 size:w2.heap.size=N+1+1+1
theorem qH(h:zi)(m:za)(op a b:Int)(w:World):Below w.heap.size w (qz h m op a b w)∧q77 (qz h m op a b w) w.heap.size h m op a b:=by
 obtain⟨h0,h1⟩:=q59 h m op a b w;obtain⟨c1,z1,b1⟩:=Qs h1.size [.int .i64 op,.int .i64 a,.int .i64 b] 55;exact⟨h0.trans (b1.mono (by omega)),h1.img.keep b1 (by omega),h1.ins.keep b1 (by omega),c1,z1⟩
theorem q77.fnlt{w2:World}{N:Nat}{h:zi}{m:za}{op a b:Int}(H:q77 w2 N h m op a b):N+1+1<w2.heap.size:=by have:=H.size;omega
theorem qI{h:zi}{m:za}{op a b:Int}{w:World}:Calls Tryz.prog 171 #[zF op a b] (qu h m op a b w) fun e w'=>e= .returned (mkF (w.heap.size+1+1))∧w'=qz h m op a b w:=by
 refine(ql0 op a b _).mono ?_;rintro e w' ⟨rfl,rfl⟩;refine⟨?_,rfl⟩;have hz:(qu h m op a b w).heap.size=w.heap.size+1+1:=by simp
 rw[hz]
theorem qp5{w:World}{g:Nat}{p q r:Int}(hg:g<w.heap.size)(h0:w.cell? ⟨g,0,none⟩=some (.int .i64 p))(h1:w.cell? ⟨g,1,none⟩=some (.int .i64 q))(h2:w.cell? ⟨g,2,none⟩=some (.int .i64 r)):ze zl 1 w w.heap.size (some ⟨g,0,none⟩) 3 [p,q,r]:=
 ⟨zn _,by show 3≤9223372036854775807;omega,fun i t hi=>by
  match i,hi with
  |0,hi=>simp at hi;subst hi;exact⟨_,rfl,hg,h0⟩
  |1,hi=>simp at hi;subst hi;exact⟨_,rfl,hg,(show w.cell? _=_ by simpa[Addr.add]using h1)⟩
  |2,hi=>simp at hi;subst hi;exact⟨_,rfl,hg,(show w.cell? _=_ by simpa[Addr.add]using h2)⟩
  |i+3,hi=>simp at hi⟩
def kQ(w0:World)(L:List (Int×Int))(e:Ending)(w':World):Prop:=∃v,e= .returned v∧w'.ownsRow w0.heap.size 50 2 v L.length (qk L)∧Below w0.heap.size w0 w'
theorem kQ.some_{w w0:World}{L:List (Int×Int)}{e:Ending}{w':World}(h:kQ w0 L e w')(hb:Below w.heap.size w w0):qm L w e w':=by
 obtain⟨v,rfl,ho,hx⟩:=h;obtain⟨A,c,rfl,hs,_⟩:=YN ho;exact⟨A,c,rfl,hs,hb.trans (hx.mono hb.size)⟩
theorem q71{k0 op a b:Int}{N:Nat}{w0 w:World}{L:List (Int×Int)}(HL:Hid (zS a [k0]=L))(HN:Hid (N<w0.heap.size))(HC:Hid (zW w0 N [.int .i64 op,.int .i64 a,.int .i64 b]))(HX:Hid (Below w0.heap.size w0 w)):
  Calls Tryz.prog 194 #[.slice (some ⟨w.heap.size,0,none⟩) 1 1,.pointer (some ⟨N,0,none⟩)] (w.alloc (.cells #[.int .i64 k0] 3)) (kQ w0 L):=by
 have hA:=HX.out.alloc HX.out.size (.cells #[.int .i64 k0] 3);refine(q3t (ks:=[k0]) HL (Xj HN.out hA.size) (HC.out.keep hA HN.out) (q3m (by simp) (by go_simp)) (by simp)).mono ?_;rintro e w' ⟨v,rfl,ho,hb⟩;exact⟨v,rfl,ja ho hA.size,hA.trans (hb.mono hA.size)⟩
theorem qen{k0 k1 op a b:Int}{N:Nat}{w0 w:World}{L:List (Int×Int)}(HL:Hid (zS a [k0,k1]=L))(HN:Hid (N<w0.heap.size))(HC:Hid (zW w0 N [.int .i64 op,.int .i64 a,.int .i64 b]))(HX:Hid (Below w0.heap.size w0 w)):
  Calls Tryz.prog 194 #[.slice (some ⟨w.heap.size,0,none⟩) 2 2,.pointer (some ⟨N,0,none⟩)] (w.alloc (.cells #[.int .i64 k0,.int .i64 k1] 3)) (kQ w0 L):=by
 have hA:=HX.out.alloc HX.out.size (.cells #[.int .i64 k0,.int .i64 k1] 3);refine(q3t (ks:=[k0,k1]) HL (Xj HN.out hA.size) (HC.out.keep hA HN.out) (qel (by simp) (by go_simp) (by go_simp)) (by simp)).mono ?_;rintro e w' ⟨v,rfl,ho,hb⟩;exact⟨v,rfl,ja ho hA.size,hA.trans (hb.mono hA.size)⟩
theorem qv8{k0 k1 k2 op a b:Int}{N:Nat}{w0 w:World}{L:List (Int×Int)}(HL:Hid (zS a [k0,k1,k2]=L))(HN:Hid (N<w0.heap.size))(HC:Hid (zW w0 N [.int .i64 op,.int .i64 a,.int .i64 b]))(HX:Hid (Below w0.heap.size w0 w)):
  Calls Tryz.prog 194 #[.slice (some ⟨w.heap.size,0,none⟩) 3 3,.pointer (some ⟨N,0,none⟩)] (w.alloc (.cells #[.int .i64 k0,.int .i64 k1,.int .i64 k2] 3)) (kQ w0 L):=by
 have hA:=HX.out.alloc HX.out.size (.cells #[.int .i64 k0,.int .i64 k1,.int .i64 k2] 3);refine(q3t (ks:=[k0,k1,k2]) HL (Xj HN.out hA.size) (HC.out.keep hA HN.out) (qp5 (by simp) (by go_simp) (by go_simp) (by go_simp)) (by simp)).mono ?_;rintro e w' ⟨v,rfl,ho,hb⟩;exact⟨v,rfl,ja ho hA.size,hA.trans (hb.mono hA.size)⟩
theorem qdk{k op a b:Int}{N:Nat}{w0:World}{L:List (Int×Int)}(HL:Hid (zS a [k]=L))(HN:Hid (N<w0.heap.size))(HC:Hid (zW w0 N [.int .i64 op,.int .i64 a,.int .i64 b])):
  Calls Tryz.prog 194 #[.slice (some ⟨w0.heap.size,0,none⟩) 1 1,.pointer (some ⟨N,0,none⟩)] (w0.alloc (.cells #[.int .i64 k] 3)).drew (kQ w0 L):=by
 have hA:=((zb w0.heap.size w0).alloc (zn _) (.cells #[.int .i64 k] 3)).drew;refine(q3t (ks:=[k]) HL (Xj HN.out hA.size) (HC.out.keep hA HN.out) (q3m (by simp) (by go_simp)) (by simp)).mono ?_;rintro e w' ⟨v,rfl,ho,hb⟩;exact⟨v,rfl,ja ho hA.size,hA.trans (hb.mono hA.size)⟩
theorem ZQ.set{m:za}{f:Int}{S:List zo}(h:ZQ m f S):Jh m f S:=by
 have hr:=h.right;unfold vv q3u at hr;simp only[Xr,Xt]at hr;obtain⟨⟨_,h2,h3,_⟩,h5⟩:=hr;refine⟨⟨h2,h3,h.small⟩,fun pc hpc hs=> ?_⟩;have h6:=Xx.mp h5 pc (XR.mpr hpc);unfold kR goB at h6;rw[hs]at h6;simp only[Bool.not_true,Bool.false_or,Xr,Xt]at h6;refine⟨h6.1,fun n hn=> ?_⟩;have h7:=Xx.mp h6.2 n hn;unfold onB at h7;rw[Xr]at h7;have h8:q0d (zz m.classes) (zR m f pc (zt S pc).stack).after (zt S n).stack=true:=by
  exact h7.2
 unfold q0d at h8;rw[Xr,Xt]at h8;exact⟨h7.1,h8.1⟩
theorem qh3(x:zh)(hx:qx)(w:World)(ha:x.args.length≤1000)(hl:x.locals.length≤1000):
  Calls Tryz.prog 132 #[kn hx x] w fun e w'=>e= .returned (.int .i64 ((x.args.length:Int)+(x.locals.length:Int)))∧Below w.heap.size w w':=by
 go_enter Tryz.func132,Tryz.ntmps132;go_wp2
 go_ret;exact⟨rfl,(zb _ _).alloc (zn _) _⟩
theorem q8a{P:Prop}(h:P:=by
 go_enter Tryz.func126,Tryz.ntmps126;go_wp2_with(go_at_call 167;(with_reducible refine(q2y _ _ _ _).mono ?_);rintro e w' ⟨he,hb⟩;rw[R.out]at he;subst he;obtain⟨q0,q1⟩:=C0.out _ hb)
 go_ret;exact⟨by rw[E2.out];rfl,HW.out.trans (hb.mono HW.out.size)⟩):P:=h
theorem qh2(k n c:Int)(w:World):Calls Tryz.prog 126 #[zU k n,.int .i64 c] w fun e w'=>e= .returned (.bool (kL (k,n) c))∧Below w.heap.size w w':=by
 have HW:=zH ((zb w.heap.size w).alloc (zn _) (.cells #[.int .i64 k,.int .i64 n] 50));have c0:∀w',Below (w.alloc (.cells #[.int .i64 k,.int .i64 n] 50)).heap.size (w.alloc (.cells #[.int .i64 k,.int .i64 n] 50)) w'→w'.cell? ⟨w.heap.size,0,none⟩=some (.int .i64 k)∧w'.cell? ⟨w.heap.size,1,none⟩=some (.int .i64 n):=fun w' hb=>
  ⟨(hb.cell (p:=⟨w.heap.size,0,none⟩) (by simp)).trans (by rw[World.cell?_alloc_at _ _ _ _ rfl];rfl),(hb.cell (p:=⟨w.heap.size,1,none⟩) (by simp)).trans (by rw[World.cell?_alloc_at _ _ _ _ rfl];rfl)⟩
 have C0:=zH c0;clear c0;obtain⟨r,hr⟩:∃r,jn k n c=r:=⟨_,rfl⟩
 have R:=zH hr;have E:=zH (show kL (k,n) c=(decide (k=5∧n=0)||r)by rw[←hr];unfold kL;rw[XV];simp);clear hr;cases r
 ·by_cases h5:k=5∧n=0
  ·obtain⟨rfl,rfl⟩:=h5;go_enter Tryz.func126,Tryz.ntmps126;go_wp2_with(go_at_call 167;(with_reducible refine(q2y _ _ _ _).mono ?_);rintro e w' ⟨he,hb⟩;rw[R.out]at he;subst he;obtain⟨q0,q1⟩:=C0.out _ hb)
   go_ret;exact⟨by rw[E.out];rfl,HW.out.trans (hb.mono HW.out.size)⟩
  ·have E2:=zH (show kL (k,n) c=false by rw[E.out,Xg h5];rfl);have hxx:¬k=5∨(k=5∧¬n=0):=by omega
   clear h5;rcases hxx with hxx|⟨rfl,hxx⟩
   all_goals
    exact q8a
 ·have E2:=zH (show kL (k,n) c=true by rw[E.out];simp);exact q8a
def Vl(vs:List (List (Int×Int)))(c:Int):Bool:=vs.all fun l=>vw l c
set_option maxHeartbeats 1600000 in
theorem qgc(c:Int)(vs:List (List (Int×Int)))(A:Option Addr)(cap B:Nat)(w:World)(hB:B≤w.heap.size)(h:ze (zI zc 2) 1 w B A cap vs):
  Calls Tryz.prog 127 #[.int .i64 c,.slice A vs.length cap] w fun e w'=>e= .returned (.bool (Vl vs c))∧Below w.heap.size w w':=by
 have hlc:=h.le;have hcm:=h.cap;have HL:=zH h;have HB:=zH hB;obtain⟨b,hb⟩:∃b,Vl vs c=b:=⟨_,rfl⟩
 rw[hb];have E:=zH hb.symm;clear h hB hb;go_enter Tryz.func127,Tryz.ntmps127;go_wp2
 go_loopw [11] (fun i wr=>∃k:Nat,k≤vs.length∧i= .int .i64 k∧Hid (∀l ∈vs.take k,vw l c=true)∧Hid (Below w.heap.size w wr)) (fun i _=>vs.length - (intOf i).toNat)
 case atStart=>exact⟨0,by omega,rfl,zH (by simp),zH (zb _ _)⟩
 case round=>
  obtain⟨k,hk,rfl,HN,HX⟩:=hrel;by_cases hlt:k<vs.length
  ·obtain⟨ad,rfl,hab,A1,k1,q0,hq1⟩:=HL.out.row.at_ hlt;rw[Xz]at q0;have q0:=(HX.out.cell (p:=ad.add k) (by rw[zu];exact Xj hab HB.out)).trans q0;have HNO:=zH (fun g:vw vs[k] c=false=>(vK hlt g:Vl vs c=false));have HYE:=zH (fun g:vw vs[k] c=true=>vH hlt HN.out g);generalize vs[k]=l at*
   have HT:=zH hq1;have hl1:=hq1.le;have hl2:=hq1.cap;clear hq1;go_wp2_with fail
   go_loopw [17] (fun i wr=>∃k2:Nat,k2≤l.length∧i= .int .i64 k2∧Hid (∀t ∈l.take k2,jn t.1 t.2 c=true)∧Hid (Below w.heap.size w wr)) (fun i _=>l.length - (intOf i).toNat)
   case atStart=>exact⟨0,by omega,rfl,zH (by simp),HX⟩
   case round=>
    clear q0;obtain⟨k2,hk2,rfl,HN2,HX2⟩:=hrel;by_cases hlt2:k2<l.length
    ·obtain⟨ad2,rfl,hab2,r0,r1⟩:=(HT.out.below_to zc.keeps HX2.out HB.out).row.at_ hlt2;have HNO2:=zH (fun g:(fun t:Int×Int=>jn t.1 t.2 c) l[k2]=false=>(vK hlt2 g:vw l c=false));have HYE2:=zH (fun g:(fun t:Int×Int=>jn t.1 t.2 c) l[k2]=true=>vH hlt2 HN2.out g);generalize l[k2]=t at*
     obtain⟨x,y⟩:=t;dsimp only at r0 r1;obtain⟨g,hg⟩:∃g,jn x y c=g:=⟨_,rfl⟩
     have G:=zH hg;clear hg;have HA:=zH (HX2.out.alloc HX2.out.size (.cells #[.int .i64 x,.int .i64 y] 50));cases g
     ·have E2:=zH (show b=false from E.out.trans (HNO.out (HNO2.out G.out)));go_wp2_with(go_at_call 167;(with_reducible refine(q2y _ _ _ _).mono ?_);rintro e w3 ⟨he,hb⟩;rw[G.out]at he;subst he;have HX3:=zj HA hb;clear hb)
      go_ret;exact⟨by rw[E2.out];rfl,HX3.out⟩
     ·go_wp2_with(go_at_call 167;(with_reducible refine(q2y _ _ _ _).mono ?_);rintro e w3 ⟨he,hb⟩;rw[G.out]at he;subst he;have HX3:=zj HA hb;clear hb)
      go_roundw;case rel=>exact⟨k2+1,by omega,by go_num,zH (HYE2.out G.out),HX3⟩
      case measure=>simp[intOf];omega
    ·have HY:=zH (HYE.out (vL (l:=l) HN2.out (by omega)));go_wp2_with fail
     go_roundw;case rel=>exact⟨k+1,by omega,by go_num,HY,HX2⟩
     case measure=>simp[intOf];omega
  ·have E2:=zH (show b=true from E.out.trans (vL HN.out (by omega)));go_wp2_with fail
   go_ret;exact⟨by rw[E2.out];rfl,HX.out⟩
def supB(cl:List zJ)(i:Nat):Bool:=match cl[i]? with
 |some c=>decide (c.sup<(i:Int))
 |none=>true
def kX(cl:List zJ):Bool:=(List.range cl.length).all (supB cl)
theorem q1j{cl:List zJ}{i:Nat}{c:zJ}(h:kX cl=true)(hc:cl[i]? =some c):c.sup<(i:Int):=by
 obtain⟨hi,_⟩:=XM.mp hc;have:=Xx.mp h i (XR.mpr hi);unfold supB at this;rw[hc]at this;simpa using this
theorem qro{cl:List zJ}{i:Nat}{c:zJ}(hc:cl[i]? =some c)(h:¬c.sup<(i:Int)):kX cl=false:=by
 rw[Wa];exact fun g=>h (q1j g hc)
set_option maxHeartbeats 1600000 in
theorem qh1(cl:List zJ)(A:Option Addr)(cap B:Nat)(w:World)(hB:B≤w.heap.size)(h:ze qj 3 w B A cap cl):
  Calls Tryz.prog 84 #[.slice A cl.length cap] w fun e w'=>e= .returned (.bool (kX cl))∧Below w.heap.size w w':=by
 have hlc:=h.le;have hcm:=h.cap;have HL:=zH h;have HB:=zH hB;obtain⟨b,hb⟩:∃b,kX cl=b:=⟨_,rfl⟩
 rw[hb];have E:=zH hb.symm;clear h hB hb;go_enter Tryz.func84,Tryz.ntmps84;go_wp2
 go_loopw [7] (fun i wr=>∃k:Nat,k≤cl.length∧i= .int .i64 k∧Hid (∀i<k,supB cl i=true)∧Hid (Below w.heap.size w wr)) (fun i _=>cl.length - (intOf i).toNat)
 case atStart=>exact⟨0,by omega,rfl,zH (by intro i hi;omega),zH (zb _ _)⟩
 case round=>
  obtain⟨k,hk,rfl,HN,HX⟩:=hrel;by_cases hlt:k<cl.length
  ·obtain⟨ad,rfl,hab,hc⟩:=(HL.out.below_to qj.keeps HX.out HB.out).row.at_ hlt;have HG:=zH (Xc hlt);generalize cl[k]=c at*
   obtain⟨s0,⟨A1,k1,s1,hs1⟩,⟨A2,k2,s2,hs2⟩,sr⟩:=hc;clear hs1 hs2;have HA:=zH (HX.out.alloc HX.out.size (.cells #[.int .i64 c.sup,.slice A1 c.fields.length k1,.slice A2 c.slots.length k2] 81));by_cases hc:c.sup<(k:Int)
   ·have HY:Hid (∀i<k+1,supB cl i=true):=zH (fun i hi=>by
     by_cases e:i=k
     ·subst e;unfold supB;rw[HG.out];exact Xm hc
     ·exact HN.out i (by omega))
    have hc':¬(k:Int)≤c.sup:=by omega
    go_wp2_with fail
    go_roundw;case rel=>exact⟨k+1,by omega,by go_num,HY,HA⟩
    case measure=>simp[intOf];omega
   ·have E2:=zH (show b=false from E.out.trans (qro HG.out hc));have hc':(k:Int)≤c.sup:=by omega
    go_wp2_with fail
    go_ret;exact⟨by rw[E2.out];rfl,HA.out⟩
  ·have E2:=zH (show b=true from E.out.trans (Xx.mpr fun i hi=>HN.out i (by have:=XR.mp hi;omega)));go_wp2_with fail
   go_ret;exact⟨by rw[E2.out];rfl,HX.out⟩
abbrev cntV(N:Nat):Value:= .func (.func 128) #[] #[.pointer (some ⟨N,0,none⟩)]
theorem qga(n:Nat)(A:Option Addr)(cap:Nat)(w:World):
  Calls Tryz.prog 85 #[.slice A n cap] w fun e w'=>e= .returned (cntV w.heap.size)∧w'=w.alloc (.cells #[.slice A n cap] 22):=by
 go_enter Tryz.func85,Tryz.ntmps85;go_wp2
 go_ret;exact⟨rfl,rfl⟩
theorem ql5(cl:List zJ){c:Int}(h:c<0):qh cl c=[]:=by
 unfold qh zv;rw[Xa (by omega)];rfl
theorem qi1{cl:List zJ}{i:Nat}{c:zJ}(h:cl[i]? =some c)(hs:c.sup<(i:Int)):qh cl (i:Int)=qh cl c.sup++c.fields:=by
 have e:(zz cl)[i]? =some c.sup:=by unfold zz;rw[XB,h];rfl
 unfold qh;rw[show zv (zz cl) (i:Int)=(i:Int)::zv (zz cl) c.sup by
  unfold zv;rw[Xb (by omega),Xi,q29 e,Xb hs];rfl]
 rw[List.reverse_cons,Wd];congr 1;simp[ve,h]
theorem ql6{cl:List zJ}(h:∀c ∈cl,c.fields.length≤1000)(hn:cl.length≤1000)(c:Int):(qh cl c).length≤1000000:=by
 unfold qh;have h1:=q0z h (zv (zz cl) c).reverse;have h2:=q10 (zz cl) c;rw[kq]at h2;rw[List.length_reverse]at h1;omega
set_option maxHeartbeats 1600000 in
theorem q9c(cl:List zJ)(c:Int)(N:Nat)(A:Option Addr)(cap B:Nat)(w:World)(hB:B≤w.heap.size)(h:ze qj 3 w B A cap cl)(hp:w.cell? ⟨N,0,none⟩=some (.slice A cl.length cap))
  (hs:kX cl=true) (hf:∀x ∈cl,x.fields.length≤1000) (hn:cl.length≤1000) (h1:c<cl.length):
  Calls Tryz.prog 128 #[.int .i64 c,.pointer (some ⟨N,0,none⟩)] w fun e w'=>e= .returned (.int .i64 ((qh cl c).length:Int))∧w=w':=by
 have hlc:=h.le;have hcm:=h.cap;have HL:=zH h;have HB:=zH hB;have HS:=zH hs;have HF:=zH (ql6 hf hn);obtain⟨s,hs'⟩:∃s,(qh cl c).length=s:=⟨_,rfl⟩
 have hs1:s≤1000000:=by rw[←hs'];exact HF.out c
 rw[hs'];have E:=zH hs';clear h hB hs hf hs';go_enter Tryz.func128,Tryz.ntmps128;go_wp2
 go_loop [0,4] (fun v u=>∃(d:Int) (j:Nat),v= .int .i64 d∧u= .int .i64 (j:Int)∧d<cl.length∧j≤s∧Hid (j+(qh cl d).length=s)) (fun v _=>(intOf v+1).toNat)
 case atStart=>exact⟨c,0,rfl,rfl,h1,by omega,zH (by rw[Nat.zero_add];exact E.out)⟩
 case round=>
  obtain⟨d,j,rfl,rfl,hd,hj,HJ⟩:=hrel;by_cases h0:0≤d
  ·obtain⟨n,rfl⟩:=Xq h0;have hnl:n<cl.length:=by omega
   obtain⟨ad,rfl,hab,hc⟩:=HL.out.row.at_ hnl;have HG:=zH (Xc hnl);have HST:=zH (qi1 HG.out (q1j HS.out HG.out));have hsu:=q1j HS.out HG.out;generalize cl[n]=x at*
   obtain⟨s0,⟨A1,k1,s1',hs1'⟩,⟨A2,k2,s2,hs2⟩,sr⟩:=hc;have hfl:j+x.fields.length≤s:=by
    have:=HJ.out;rw[HST.out,Xe]at this;omega
   have HJ2:Hid ((j+x.fields.length)+(qh cl x.sup).length=s):=zH (by
    have:=HJ.out;rw[HST.out,Xe]at this;omega)
   clear hs1' hs2 HJ;go_wp2_with fail
   go_round
   case rel=>exact⟨x.sup,j+x.fields.length,rfl,by go_num,by omega,hfl,HJ2⟩
   case measure=>simp[intOf];omega
  ·have e:j=s:=by
    have:=HJ.out;rw[ql5 cl (by omega)]at this;simpa using this
   subst e;go_wp2_with fail
   go_ret;exact⟨rfl,rfl⟩
def qe6(w0 w:World)(l:List Int)(e:Ending)(w':World):Prop:=∃A k,e= .returned (.slice A l.length k)∧ze zl 1 w0 w0.heap.size A k l∧w=w'
theorem qj6(m:za)(i:Nat)(x:zJ)(h:zi)(w0 w:World)(H:ze qj 3 w0 w0.heap.size h.A0 h.c0 m.classes)(hX:Below w0.heap.size w0 w)(hx:m.classes[i]? =some x)(hs:x.sup<m.classes.length):
  Calls Tryz.prog 129 #[.slice h.A0 m.classes.length h.c0,.int .i64 (i:Int)] w (qe6 w0 w (Zl m x)):=by
 have hlc:=H.le;have hcm:=H.cap;obtain⟨hil,hxe⟩:=XM.mp hx;obtain⟨ad,hA0,hab,hcl⟩:=H.row i x hx;obtain⟨s0,⟨A1,k1,s1,hs1⟩,⟨A2,k2,s2,hs2⟩,sr⟩:=hcl;have r0:=(hX.cell (p:=ad.add (i*3)) (by rw[zu];exact hab)).trans s0;have HL:=zH H;have HX:=zH hX;clear hx hxe s0 s1 s2 hs1 hs2 H hX;rw[hA0];by_cases h0:0≤x.sup
 ·obtain⟨ny,hny⟩:=Xq h0;have hnyl:ny<m.classes.length:=by omega
  obtain⟨ady,e0,haby,hcy⟩:=HL.out.row.at_ hnyl;have HAY:=zH (show Zl m x=m.classes[ny].slots by unfold Zl;rw[Xb h0,hny,Xi,Xc hnyl]);generalize m.classes[ny]=y at*
  obtain⟨_,_,⟨A2y,k2y,sy,hsy⟩,_⟩:=hcy;have sy:=(HX.out.cell (p:=zf (ady.add (ny*3)) 2) (by show(ady.add _).block<_;rw[zu];exact haby)).trans sy;rw[hA0]at e0;obtain rfl:ad=ady:=by injection e0
  rw[hny]at r0;have HSY:=zH hsy;clear hsy e0 hA0 h0;go_enter Tryz.func129,Tryz.ntmps129;go_wp2
  go_ret;exact⟨A2y,k2y,by rw[HAY.out];rfl,by rw[HAY.out];exact HSY.out,rfl⟩
 ·have HAY:=zH (show Zl m x=[]from Xa h0);have h1:x.sup<0:=by omega
  clear hA0 h0;go_enter Tryz.func129,Tryz.ntmps129;go_wp2
  go_ret;exact⟨none,0,by rw[HAY.out];rfl,by rw[HAY.out];exact⟨zn _,by omega,qv.nil⟩,rfl⟩
def ZL(m:za)(c s:Int):Bool:=match m.methods[s.toNat]? with
 |none=>false
 |some f=>match f.args with
  | []=>false
  |t::_=>zA (zz m.classes) 3 c t.1 t.2
theorem qn4{m:za}{c:Int}{n:Nat}(h:m.methods.length≤n):ZL m c (n:Int)=false:=by
 unfold ZL;rw[Xi,Xv h]
theorem qn5{m:za}{c:Int}{n:Nat}{f:zh}(h:m.methods[n]? =some f)(hf:f.args=[]):ZL m c (n:Int)=false:=by
 unfold ZL;rw[Xi,h];dsimp only;rw[hf]
theorem qrm{m:za}{c:Int}{n:Nat}{f:zh}{t:Int×Int}{r:List (Int×Int)}(h:m.methods[n]? =some f)(hf:f.args=t::r):ZL m c (n:Int)=zA (zz m.classes) 3 c t.1 t.2:=by
 unfold ZL;rw[Xi,h];dsimp only;rw[hf]
theorem quz{m:za}{h:zi}{c t0 t1:Int}{w0 w:World}{r:Bool}(HI:Hid (zm w0 w0.heap.size h m))(HX:Hid (Below w0.heap.size w0 w))(HN:Hid (m.classes.length≤1000))(HR:Hid (zA (zz m.classes) 3 c t0 t1=r)):
  Calls Tryz.prog 144 #[.slice h.A0 m.classes.length h.c0,zU 3 c,zU t0 t1] w fun e w'=>e= .returned (.bool r)∧Below w.heap.size w w':=by
 have H:=QS (zz m.classes) 3 c t0 t1 h.A0 h.c0 w.heap.size w (by rw[kq];have:=HN.out;omega) (zn _) (JP (HI.out.now HX.out).classes.row);rw[HR.out,kq]at H;exact H
set_option maxHeartbeats 1600000 in
theorem qip(m:za)(c:Int)(n:Nat)(h:zi)(w:World)(H:zm w w.heap.size h m)(hn:m.classes.length≤1000):
  Calls Tryz.prog 130 #[zp h m,.int .i64 (n:Int),.int .i64 c] w fun e w'=>e= .returned (.bool (ZL m c (n:Int)))∧Below w.heap.size w w':=by
 have HW:=zH (vr (w:=w) (h:=h) (m:=m));have HBX:=zH (ql w h m);have HZ:Hid (w.heap.size<(w.alloc (zg h m)).heap.size):=zH (by simp);have HI:=zH (H.now HW.out);have HN:=zH hn;have l3:=H.methods.le;have l3c:=H.methods.cap;clear H hn;go_enter Tryz.func130,Tryz.ntmps130;go_upto_region 1 with fail
 generalize w.alloc (zg h m)=w1 at*
 obtain⟨q0,q1,q2,q3,q4,q5,q6⟩:=HBX.out;by_cases hnl:n<m.methods.length
 ·obtain⟨adm,e3,habm,hcm⟩:=HI.out.methods.row.at_ hnl;have HME:=zH (Xc hnl);have HE3:=zH e3;generalize m.methods[n]=f at*
  obtain⟨fa,fl,fr,fc,fd,fp,fh⟩:=f;obtain⟨⟨A0f,j0,f0,hf0⟩,_,_,_,_,_,_,_⟩:=hcm;dsimp only at f0 hf0;have HSfa:=zH hf0;have hj0:=hf0.le;have hj0c:=hf0.cap;rw[e3]at q3;clear e3 hf0;by_cases hfa0:fa.length=0
  ·have SL:=zH (qn5 (c:=c) HME.out (X6 hfa0));have ht0:((fa.length:Int)==0)=true:=beq_iff_eq.mpr (by omega);clear hfa0;go_wp2_with fail
   go_ret;exact⟨by rw[SL.out];rfl,HW.out⟩
  ·have hfp:0<fa.length:=by omega
   have ht0:((fa.length:Int)==0)=false:=XG.mpr (by omega);have HFT:=zH (show fa=fa[0]::fa.drop 1 from Wq hfp);obtain⟨adt,rfl,habt,r0,r1⟩:=HSfa.out.row.at_ hfp;have HF0:Hid (∀W,Below w1.heap.size w1 W→W.cell? (adm.add (n*8))=some (.slice (some adt) fa.length j0)):=zH (fun W hW=>(hW.cell (p:=adm.add (n*8)) (by rw[zu];exact habm)).trans f0);clear hfa0;generalize fa[0]=t at*
   obtain⟨t0,t1⟩:=t;rw[Nat.zero_mul,show adt.add 0=adt by simp[Addr.add]]at r0 r1;have HR2:Hid (∀W,Below w1.heap.size w1 W→W.cell? adt=some (.int .i64 t0)∧W.cell? (zf adt 1)=some (.int .i64 t1)):=zH (fun W hW=>zc.keeps (x:=(t0,t1)) ⟨r0,r1⟩ habt (zn _) (fun _ hq=>hW.cell hq));obtain⟨r0,r1⟩:=HR2.out _ (zb _ _);have HXd:Hid (Below w1.heap.size w1 w1.drew):=zH (zb _ _).drew;obtain⟨d4,hd4⟩:∃d,zA (zz m.classes) 3 c t0 t1=d:=⟨_,rfl⟩
   have D4:=zH hd4;have SL:=zH ((qrm (c:=c) HME.out HFT.out).trans hd4);clear hd4 habt;go_upto_region 3 with fail
   go_region_held3 (fun w'=>w'.cell? ⟨w.heap.size,0,none⟩=some (.slice h.A0 m.classes.length h.c0)∧w'.cell? ⟨w.heap.size,3,none⟩=some (.slice (some adm) m.methods.length h.c3)∧w'.cell? (adm.add (n*8))=some (.slice (some adt) fa.length j0)∧w'.cell? adt=some (.int .i64 t0)∧w'.cell? (zf adt 1)=some (.int .i64 t1)) (first|exact⟨q0,q3,f0,r0,r1⟩) (first|(go_at_call 144;(with_reducible refine(quz HI HXd HN D4).mono ?_);rintro e w3 ⟨rfl,hb⟩;have HX:=zj HXd hb;obtain⟨q0,q1,q2,q3,q4,q5,q6⟩:=HBX.out.keep HX.out HZ.out;rw[HE3.out]at q3;have f0:=HF0.out _ HX.out;obtain⟨r0,r1⟩:=HR2.out _ HX.out;clear hb))
   go_wp2_with fail
   go_ret;exact⟨by rw[SL.out];rfl,HW.out.trans (HX.out.mono (Xh HZ.out))⟩
 ·have SL:=zH (qn4 (c:=c) (m:=m) (Nat.le_of_not_lt hnl));go_wp2_with fail
  go_ret;exact⟨by rw[SL.out];rfl,HW.out⟩
theorem qkh:(Tryz.prog.info? 23).map (fun i=>(i.zero,i.size,i.bytes))=some (some (.slice none 0 0),1,24):=by kernel_rfl
theorem qdb(w:World)(vs:List Value)(T:TypeId):zq (w.alloc (.cells vs.toArray T)) (w.heap.size+1) (some ⟨w.heap.size,0,none⟩) vs:=fun j u hu=>
 ⟨_,rfl,by show w.heap.size<_;omega,by
  rw[show Addr.add ⟨w.heap.size,0,none⟩ j=⟨w.heap.size,j,none⟩by unfold Addr.add;split<;>simp[*]];exact qr w vs T j u hu⟩
theorem qsa(w:World)(v:Value)(T:TypeId):(w.alloc (.cells #[v] T)).ownsRow w.heap.size T 1 (.slice (some ⟨w.heap.size,0,none⟩) 1 1) 1 [v]:=
 ⟨rfl,.inr ⟨w.heap.size,1,#[v],rfl,zn _,Xw _ _,zn _,by unfold maxLen;omega,rfl,rfl⟩⟩
def JY(w:World)(B:Nat)(ls:List (List (Int×Int)))(vs:List Value):Prop:=
 vs.length=ls.length∧∀(i:Nat) l,ls[i]? =some l→∃A c,vs[i]? =some (.slice A l.length c)∧ze zc 2 w B A c l
theorem JY.nil{w:World}{B:Nat}:JY w B [] []:=⟨rfl,fun i l h=>by simp at h⟩
theorem JY.snoc{w:World}{B:Nat}{ls:List (List (Int×Int))}{vs:List Value}{l:List (Int×Int)}{A:Option Addr}{c:Nat}(h:JY w B ls vs)(hl:ze zc 2 w B A c l):JY w B (ls++[l]) (vs++[.slice A l.length c]):=
 ⟨by simp[h.1],fun i l' hi=>by
  rcases Xk i ls.length with g|g
  ·rw[XN g]at hi;obtain⟨A',c',h1,h2⟩:=h.2 i l' hi;exact⟨A',c',by rw[XN (by rw[h.1];exact g)];exact h1,h2⟩
  ·rw[XP g]at hi;have e:i - ls.length=0:=by
    rcases Wo (i - ls.length)with e|e
    ·exact e
    ·rw[Xv (by simp;omega)]at hi;cases hi
   rw[e]at hi;simp at hi;subst hi;exact⟨A,c,by rw[XP (by rw[h.1];exact g),h.1,e];rfl,hl⟩⟩
theorem qor{w0 w:World}{B e:Nat}{v:Value}{ls:List (List (Int×Int))}{vs:List Value}(hL:JY w0 w0.heap.size ls vs)(hb:Below w0.heap.size w0 w)(ho:w.ownsRow B e 1 v vs.length vs):
  ∃A c,v= .slice A ls.length c∧ze (zI zc 2) 1 w w.heap.size A c ls:=by
 obtain⟨A,c,rfl,hl⟩:=qbc ho;have hlc:vs.length≤c∧c≤9223372036854775807:=by
  rcases Zk ho with⟨h1,h2⟩|⟨g,c',h1,h2,h3⟩
  ·injection h1 with _ _ h1;omega
  ·injection h1 with _ _ h1;omega
 refine⟨A,c,by rw[hL.1],by rw[←hL.1];exact hlc.1,hlc.2,fun i l hi=> ?_⟩;obtain⟨A',c',h1,h2⟩:=hL.2 i l hi;obtain⟨ad,h3,h4,h5⟩:=hl i _ h1;exact⟨ad,h3,h4,A',c',by rw[Xz];exact h5,(h2.below_to zc.keeps hb (zn _)).keep' zc.keeps hb.size (fun _ _=>rfl)⟩
def q1z(m:za):Bool:=m.methods.all fun x=>kL x.ret m.classes.length
def kr(m:za)(k:Nat):List (List (Int×Int)):=m.statics::(m.classes.map (·.fields)++(m.methods.take k).flatMap fun x=> [x.args,x.locals])
def Qz(m:za)(k:Nat):List (List (Int×Int)):=m.statics::(m.classes.take k).map (·.fields)
def Jq(m:za):Bool:=q1z m&& Vl (kr m m.methods.length) m.classes.length
theorem qto(m:za):Qz m 0=[m.statics]:=by simp[Qz]
theorem qtp{m:za}{k:Nat}(h:k<m.classes.length):Qz m (k+1)=Qz m k++[m.classes[k].fields]:=by
 unfold Qz;rw[XH,Xc h,XY,List.cons_append];rfl
theorem qvh{m:za}{k:Nat}(h:m.classes.length≤k):Qz m k=kr m 0:=by
 unfold Qz kr;rw[XK h];simp
theorem qig{m:za}{k:Nat}(h:k<m.methods.length):kr m (k+1)=(kr m k++[m.methods[k].args])++[m.methods[k].locals]:=by
 unfold kr;rw[XH,Xc h,Wd];simp
theorem qmv{m:za}{k:Nat}(h:m.methods.length≤k):kr m k=kr m m.methods.length:=by
 unfold kr;rw[XK h,XK (zn _)]
theorem qvg(m:za)(k:Nat):(Qz m k).length≤1+k:=by
 unfold Qz;rw[XJ,Xo];have:=List.length_take_le k m.classes;omega
theorem qmu(m:za)(k:Nat):(kr m k).length≤1+m.classes.length+2*k:=by
 unfold kr;rw[XJ,Xe,Xo,List.length_flatMap];have:=List.length_take_le k m.methods;have:(List.map (fun x:zh=> [x.args,x.locals].length) (List.take k m.methods)).sum=2*(List.take k m.methods).length:=by
  induction List.take k m.methods with
  |nil=>rfl
  |cons a l ih=>simp at ih⊢;omega
 omega
def q3w(m:za)(w1:World)(ls:List (List (Int×Int)))(v:Value)(wr:World):Prop:=
 ∃vs,JY w1 w1.heap.size ls vs∧wr.ownsRow w1.heap.size 23 1 v vs.length vs
theorem q98{t:Int×Int}{c:Int}{w:World}{r:Bool}(HR:Hid (kL t c=r)):Calls Tryz.prog 126 #[zU t.1 t.2,.int .i64 c] w fun e w'=>e= .returned (.bool r)∧Below w.heap.size w w':=by
 have H:=qh2 t.1 t.2 c w;rw[show((t.1,t.2):Int×Int)=t from rfl,HR.out]at H;exact H
set_option maxHeartbeats 3200000 in
theorem qin(m:za)(h:zi)(w:World)(H:zm w w.heap.size h m)(hn:m.classes.length≤1000)(hm:m.methods.length≤1000):
  Calls Tryz.prog 83 #[zp h m] w fun e w'=>e= .returned (.bool (Jq m))∧Below w.heap.size w w':=by
 obtain⟨i0,hi,hz0,hz1,hz2⟩:=jU qkh;have HW:=zH (vr (w:=w) (h:=h) (m:=m));have HBX:=zH (ql w h m);have HZ:Hid (w.heap.size<(w.alloc (zg h m)).heap.size):=zH (by simp);have HI:=zH (H.now HW.out);have l0:=H.classes.le;have l0c:=H.classes.cap;have l3:=H.methods.le;have l3c:=H.methods.cap;clear H;go_enter Tryz.func83,Tryz.ntmps83;go_upto_region 1 with fail
 generalize w.alloc (zg h m)=w1 at*
 obtain⟨q0,q1,q2,q3,q4,q5,q6⟩:=HBX.out;go_upto_region 3 with fail
 have HX:=zH ((zb w1.heap.size w1).alloc (zn _) (.cells ([.slice h.A1 m.statics.length h.c1]:List Value).toArray 23));have HR0:Hid (q3w m w1 (Qz m 0) (.slice (some ⟨w1.heap.size,0,none⟩) 1 1) (w1.alloc (.cells ([.slice h.A1 m.statics.length h.c1]:List Value).toArray 23))):=zH ⟨[.slice h.A1 m.statics.length h.c1],by rw[qto];exact JY.nil.snoc HI.out.statics,qsa _ _ _⟩;clear q0 q1 q2 q3 q4 q5 q6;obtain⟨q0,q1,q2,q3,q4,q5,q6⟩:=HBX.out.keep HX.out HZ.out;go_wp2_with fail
 go_loopw [4,18] (fun v i wr=>∃k:Nat,k≤m.classes.length∧i= .int .i64 k∧Hid (q3w m w1 (Qz m k) v wr)∧Hid (Below w1.heap.size w1 wr)) (fun _ i _=>m.classes.length - (intOf i).toNat)
 case atStart=>exact⟨0,by omega,rfl,HR0,HX⟩
 case round=>
  clear HX q0 q1 q2 q3 q4 q5 q6 HR0;obtain⟨k,hk,rfl,HR,HX⟩:=hrel;obtain⟨q0,q1,q2,q3,q4,q5,q6⟩:=HBX.out.keep HX.out HZ.out;by_cases hlt:k<m.classes.length
  ·obtain⟨ad,e0,hab,hc⟩:=HI.out.classes.row.at_ hlt;have HSU:=zH (qtp hlt);have hll:=qvg m k;generalize m.classes[k]=c at*
   obtain⟨s0,⟨A1,k1,s1,hs1⟩,⟨A2,k2,s2,hs2⟩,sr⟩:=hc;have hP:(ad.add (k*3)).block<w1.heap.size:=by rw[zu];exact hab
   have s0:=(HX.out.cell hP).trans s0;have s1:=(HX.out.cell (p:=zf (ad.add (k*3)) 1) hP).trans s1;have s2:=(HX.out.cell (p:=zf (ad.add (k*3)) 2) hP).trans s2;have HFL:=zH hs1;rw[e0];obtain⟨vs,hla,ho⟩:=HR.out;have hvl:vs.length≤1+k:=by rw[hla.1];exact hll
   have HLA:=zH hla;have HO:=zH ho;clear hla ho HR e0 hs1 hs2 hP hab hll;go_upto_region 6 with fail
   have HB3:=zH (qr wr [.int .i64 c.sup,.slice A1 c.fields.length k1,.slice A2 c.slots.length k2] 81);have HX:=zH (HX.out.alloc HX.out.size (.cells ([.int .i64 c.sup,.slice A1 c.fields.length k1,.slice A2 c.slots.length k2]:List Value).toArray 81));have HO3:Hid ((wr.alloc (.cells ([.int .i64 c.sup,.slice A1 c.fields.length k1,.slice A2 c.slots.length k2]:List Value).toArray 81)).ownsRow w1.heap.size 23 1 u4 vs.length vs):=zH (HO.out.alloc _);have HB3:Hid (zW (wr.alloc (.cells ([.int .i64 c.sup,.slice A1 c.fields.length k1,.slice A2 c.slots.length k2]:List Value).toArray 81)) wr.heap.size [.int .i64 c.sup,.slice A1 c.fields.length k1,.slice A2 c.slots.length k2]):=HB3;have HZ3:Hid (wr.heap.size<(wr.alloc (.cells ([.int .i64 c.sup,.slice A1 c.fields.length k1,.slice A2 c.slots.length k2]:List Value).toArray 81)).heap.size):=zH (by simp);clear q0 q1 q2 q3 q4 q5 q6 s0 s1 s2;generalize wr.alloc (.cells ([.int .i64 c.sup,.slice A1 c.fields.length k1,.slice A2 c.slots.length k2]:List Value).toArray 81)=w3 at*
   generalize wr.heap.size=gb at*
   obtain⟨b0,b1,b2⟩:=qw HB3.out;have hsz3:=HX.out.size;go_wp2_with(at_builtin;refine Zj rfl _ _ 183 rfl w1.heap.size 23 i0 (.slice none 0 0) 1 24 Tryz.underlying183 hi hz0 hz1 hz2 rfl (by decide) _ vs.length vs rfl (HO3.out.alloc _) (some ⟨w3.heap.size,0,none⟩) 1 1 (w3.heap.size+1) [.slice A1 c.fields.length k1] rfl rfl (qdb w3 [.slice A1 c.fields.length k1] 23) ?c1 (by unfold maxLen;omega) (by omega) ?c2 ?_)
   case c1=>intro u hu;simp at hu;first|(subst hu;rfl)|(rcases hu with rfl|rfl<;>rfl)
   case c2=>simp;omega
   intro v6 w6 hown hgrow;have HX6:=zH (jV ((HX.out.alloc HX.out.size (.cells ([.slice A1 c.fields.length k1]:List Value).toArray 23))) (HO3.out.alloc _) (by simp;omega) hgrow);have HO6:=zH hown;clear hown hgrow;go_wp2_with fail
   go_roundw;case rel=>exact⟨k+1,by omega,by go_num,zH ⟨vs++[.slice A1 c.fields.length k1],by rw[HSU.out];exact HLA.out.snoc HFL.out,by rw[Xe];exact HO6.out⟩,HX6⟩
   case measure=>simp[intOf];omega
  ·have HR2:Hid (q3w m w1 (kr m 0) u4 wr):=zH (by rw[←qvh (m:=m) (k:=k) (by omega)];exact HR.out);clear HR;go_wp2_with fail
   go_loopw [4,31] (fun v i wr=>∃k:Nat,k≤m.methods.length∧i= .int .i64 k∧Hid (∀x ∈m.methods.take k,kL x.ret m.classes.length=true)∧Hid (q3w m w1 (kr m k) v wr)∧Hid (Below w1.heap.size w1 wr)) (fun _ i _=>m.methods.length - (intOf i).toNat)
   case atStart=>exact⟨0,by omega,rfl,zH (by simp),HR2,HX⟩
   case round=>
    clear HX q0 q1 q2 q3 q4 q5 q6 HR2 hlt hk;obtain⟨k,hk,rfl,HN,HR,HX⟩:=hrel;obtain⟨q0,q1,q2,q3,q4,q5,q6⟩:=HBX.out.keep HX.out HZ.out;by_cases hlt:k<m.methods.length
    ·obtain⟨ad,e0,hab,hc⟩:=HI.out.methods.row.at_ hlt;have HSU:=zH (qig hlt);have hll:=qmu m k;have HNO:=zH (fun g:(fun x:zh=>kL x.ret m.classes.length) m.methods[k]=false=>(vK hlt g:q1z m=false));have HYE:=zH (fun g:(fun x:zh=>kL x.ret m.classes.length) m.methods[k]=true=>vH hlt HN.out g);generalize m.methods[k]=x at*
     obtain⟨⟨A0,k0,s0,hs0⟩,⟨A1,k1,s1,hs1⟩,s2,s3,⟨A4,k4,s4,hs4⟩,s5,s6,⟨A7,k7,s7,hs7⟩⟩:=hc;have hP:(ad.add (k*8)).block<w1.heap.size:=by rw[zu];exact hab
     have s0:=(HX.out.cell hP).trans s0;have s1:=(HX.out.cell (p:=zf (ad.add (k*8)) 1) hP).trans s1;have s2:=(HX.out.cell (p:=zf (ad.add (k*8)) 2) hP).trans s2;have s3:=(HX.out.cell (p:=zf (ad.add (k*8)) 3) hP).trans s3;have s4:=(HX.out.cell (p:=zf (ad.add (k*8)) 4) hP).trans s4;have s5:=(HX.out.cell (p:=zf (ad.add (k*8)) 5) hP).trans s5;have s6:=(HX.out.cell (p:=zf (ad.add (k*8)) 6) hP).trans s6;have s7:=(HX.out.cell (p:=zf (ad.add (k*8)) 7) hP).trans s7;have HFA:=zH hs0;have HFL:=zH hs1;rw[e0];obtain⟨vs,hla,ho⟩:=HR.out;have hvl:vs.length≤1+m.classes.length+2*k:=by rw[hla.1];exact hll
     have HLA:=zH hla;have HO:=zH ho;obtain⟨g,hg⟩:∃g,kL x.ret m.classes.length=g:=⟨_,rfl⟩
     have G:=zH hg;clear hg hla ho HR e0 hs0 hs1 hs4 hs7 hP hab hll;go_upto_region 11 with fail
     have HB3:=zH (qr wr [.slice A0 x.args.length k0,.slice A1 x.locals.length k1,.int .i64 x.ret.1,.int .i64 x.ret.2,.slice A4 x.code.length k4,.int .i64 x.depth,.int .i64 x.pot,.slice A7 x.phi.length k7] 53);have HX:=zH (HX.out.alloc HX.out.size (.cells ([.slice A0 x.args.length k0,.slice A1 x.locals.length k1,.int .i64 x.ret.1,.int .i64 x.ret.2,.slice A4 x.code.length k4,.int .i64 x.depth,.int .i64 x.pot,.slice A7 x.phi.length k7]:List Value).toArray 53));have HO3:Hid ((wr.alloc (.cells ([.slice A0 x.args.length k0,.slice A1 x.locals.length k1,.int .i64 x.ret.1,.int .i64 x.ret.2,.slice A4 x.code.length k4,.int .i64 x.depth,.int .i64 x.pot,.slice A7 x.phi.length k7]:List Value).toArray 53)).ownsRow w1.heap.size 23 1 u4 vs.length vs):=zH (HO.out.alloc _);have HB3:Hid (zW (wr.alloc (.cells ([.slice A0 x.args.length k0,.slice A1 x.locals.length k1,.int .i64 x.ret.1,.int .i64 x.ret.2,.slice A4 x.code.length k4,.int .i64 x.depth,.int .i64 x.pot,.slice A7 x.phi.length k7]:List Value).toArray 53)) wr.heap.size [.slice A0 x.args.length k0,.slice A1 x.locals.length k1,.int .i64 x.ret.1,.int .i64 x.ret.2,.slice A4 x.code.length k4,.int .i64 x.depth,.int .i64 x.pot,.slice A7 x.phi.length k7]):=HB3;have HZ3:Hid (wr.heap.size<(wr.alloc (.cells ([.slice A0 x.args.length k0,.slice A1 x.locals.length k1,.int .i64 x.ret.1,.int .i64 x.ret.2,.slice A4 x.code.length k4,.int .i64 x.depth,.int .i64 x.pot,.slice A7 x.phi.length k7]:List Value).toArray 53)).heap.size):=zH (by simp);clear q0 q1 q2 q3 q4 q5 q6 s0 s1 s2 s3 s4 s5 s6 s7;generalize wr.alloc (.cells ([.slice A0 x.args.length k0,.slice A1 x.locals.length k1,.int .i64 x.ret.1,.int .i64 x.ret.2,.slice A4 x.code.length k4,.int .i64 x.depth,.int .i64 x.pot,.slice A7 x.phi.length k7]:List Value).toArray 53)=w3 at*
     generalize wr.heap.size=gb at*
     obtain⟨b0,b1,b2,b3,b4,b5,b6,b7⟩:=zY HB3.out;cases g
     ·have E2:=zH (show Jq m=false by unfold Jq;rw[show q1z m=false from HNO.out G.out];rfl);go_wp2_with(go_at_call 126;(with_reducible refine(q98 G).mono ?_);rintro e w5 ⟨rfl,hb⟩;have HX:=zj HX hb;have HB5:=zH (HB3.out.keep hb HZ3.out);have HO5:=zH (zT HO3.out hb (zL HO3.out));obtain⟨b0,b1,b2,b3,b4,b5,b6,b7⟩:=zY HB5.out;clear hb)
      go_ret;exact⟨by rw[E2.out];rfl,HW.out.trans (HX.out.mono (Xh HZ.out))⟩
     ·have HY:=zH (HYE.out G.out);go_upto_region 13 with(go_at_call 126;(with_reducible refine(q98 G).mono ?_);rintro e w5 ⟨rfl,hb⟩;have HX:=zj HX hb;have HB5:=zH (HB3.out.keep hb HZ3.out);have HO5:=zH (zT HO3.out hb (zL HO3.out));obtain⟨b0,b1,b2,b3,b4,b5,b6,b7⟩:=zY HB5.out;clear hb)
      clear HB3 HO3 HZ3;have HO3:=HO5;clear HO5 HB5;generalize w5=w3 at*
      have hsz3:=HX.out.size;go_wp2_with(at_builtin;refine Zj rfl _ _ 183 rfl w1.heap.size 23 i0 (.slice none 0 0) 1 24 Tryz.underlying183 hi hz0 hz1 hz2 rfl (by decide) _ vs.length vs rfl (HO3.out.alloc _) (some ⟨w3.heap.size,0,none⟩) 2 2 (w3.heap.size+1) [.slice A0 x.args.length k0,.slice A1 x.locals.length k1] rfl rfl (qdb w3 [.slice A0 x.args.length k0,.slice A1 x.locals.length k1] 23) ?c1 (by unfold maxLen;omega) (by omega) ?c2 ?_)
      case c1=>intro u hu;simp at hu;first|(subst hu;rfl)|(rcases hu with rfl|rfl<;>rfl)
      case c2=>simp;omega
      intro v6 w6 hown hgrow;have HX6:=zH (jV ((HX.out.alloc HX.out.size (.cells ([.slice A0 x.args.length k0,.slice A1 x.locals.length k1]:List Value).toArray 23))) (HO3.out.alloc _) (by simp;omega) hgrow);have HO6:=zH hown;clear hown hgrow;go_wp2_with fail
      go_roundw;case rel=>exact⟨k+1,by omega,by go_num,HY,zH ⟨vs++[.slice A0 x.args.length k0,.slice A1 x.locals.length k1],by rw[HSU.out];have h2:=(HLA.out.snoc HFA.out).snoc HFL.out;simpa only[Xu,List.cons_append,List.nil_append]using h2,by rw[Xe];exact HO6.out⟩,HX6⟩
      case measure=>simp[intOf];omega
    ·have HRA:=zH (show q1z m=true from vL (l:=m.methods) HN.out (by omega));obtain⟨vs,hla,ho⟩:=HR.out;rw[qmv (m:=m) (k:=k) (by omega)]at hla;obtain⟨A9,k9,rfl,hs9⟩:=qor hla HX.out ho;have HS9:=zH hs9;have E2:=zH (show Jq m=Vl (kr m m.methods.length) m.classes.length by unfold Jq;rw[HRA.out];rfl);clear hla ho hs9 HR;go_wp2_with(go_at_call 127;(with_reducible refine(qgc _ _ _ _ _ _ (zn _) HS9.out).mono ?_);rintro e w5 ⟨rfl,hb⟩;have HX:=zj HX hb;clear hb)
     go_ret;exact⟨by rw[E2.out];rfl,HW.out.trans (HX.out.mono (Xh HZ.out))⟩
theorem oN_ext{L M:List Int}(hl:L.length=M.length)(h:∀v,v<L.length→oN L v=oN M v):L=M:=by
 refine We hl fun v h1 h2=> ?_;have:=h v h1
 rwa [ZA h1,ZA h2]at this
theorem q3d(n:Nat)(a b most:Int):(jD n a b most).1.length=n:=by simp[jD]
theorem qum{n v:Nat}{a b most:Int}(h:v<n):oN (jD n a b most).1 v=(if(v:Int)=b then 1 else 0) - (if(v:Int)=a then 1 else 0):=by
 rw[ZA (by rw[q3d];exact h)];simp[jD]
theorem qme(n:Nat)(a b most:Int):vc (vc (List.replicate n 0) b 1) a (-1)=(jD n a b most).1:=by
 have hl:(vc (vc (List.replicate n (0:Int)) b 1) a (-1)).length=n:=by rw[q3k,q3k,Wj]
 refine oN_ext (by rw[hl,q3d]) fun v hv=> ?_;rw[hl]at hv;rw[qum hv,qew (by rw[q3k,Wj];exact hv),qew (by rw[Wj];exact hv)];have:oN (List.replicate n (0:Int)) v=0:=by unfold oN;rw[Wm,Xb hv];rfl
 rw[this];split<;>split<;>omega
theorem qnj{L:List Int}{k:Int}(h:∀x ∈L,-k≤x∧x≤k)(hk:0≤k){i b:Int}(hb: -1≤b∧b≤1):∀x ∈vc L i b,-(k+1)≤x∧x≤k+1:=fun x hx=>by
 unfold vc at hx;split at hx
 ·rename_i h0;rcases X9 hx with q|q
  ·have:=h x q;omega
  ·have h1:=h _ (Xf (show i.toNat<L.length by omega));rw[←ZA (show i.toNat<L.length by omega)]at h1;omega
 ·have:=h x hx;omega
set_option maxHeartbeats 3200000 in
theorem qjv(n:Nat)(a b most:Int)(w:World)(hn:n≤1000):
  Calls Tryz.prog 92 #[.int .i64 n,.int .i64 b,.int .i64 a,.int .i64 most] w fun e w'=>∃g,e= .returned (.agg #[.slice (some ⟨g,0,none⟩) n n,.int .i64 most])∧w.heap.size≤g∧qg w' g (jD n a b most).1∧Below w.heap.size w w':=by
 obtain⟨i1,hi1,hy0,hy1,hy2⟩:=jU vT;have HR:=zH (qme n a b most);have HNL:=zH hn;go_enter Tryz.func92,Tryz.ntmps92;go_upto_region 1 with fail
 have HW1:=zH ((zb w.heap.size w).alloc (zn _) (.cells #[.slice none 0 0,.int .i64 0] 101));have HQ1:=zH (zd.new w [.slice none 0 0,.int .i64 0] 101);have HZ1:Hid (w.heap.size<(w.alloc (.cells #[.slice none 0 0,.int .i64 0] 101)).heap.size):=zH (by simp);generalize w.alloc (.cells #[.slice none 0 0,.int .i64 0] 101)=w1 at*
 go_upto_region 2 with(at_make;refine wpList_make_full _ rfl _ _ 26 rfl w1.heap.size 3 i1 (.int .i64 0) 1 Tryz.underlying26 hi1 hy0 hy1 .i64 .i64 _ _ n rfl rfl rfl rfl (by rw[hy2];omega) (by unfold maxLen;omega) (zn _) ?_;intro w3 hown hgrow;have HO3:=zH hown;have HB3:=zH ((zb w1.heap.size w1).grown hgrow (zn _) (fun k hk=>by cases hk));clear hown hgrow)
 have hN3:qg w3 w1.heap.size (List.replicate n 0):=by
  have h1:=q2j HO3.out;rw[q1f (v:= .int .i64 0) rfl]at h1;unfold qg;rw[List.map_replicate];exact h1
 obtain⟨g,hg⟩:∃g,w1.heap.size=g:=⟨_,rfl⟩
 rw[hg]at hN3;have hgl:=zd.lt hN3;have hwg:w.heap.size<g:=by have:=HZ1.out;omega
 have hB4:Below g w1 (w3.alloc (.cells #[.slice (some ⟨g,0,none⟩) n n,.int .i64 most] 101)):=by
  have:=HB3.out;rw[hg]at this;exact this.alloc (by omega) _
 have HN4:Hid (qg (w3.alloc (.cells #[.slice (some ⟨g,0,none⟩) n n,.int .i64 most] 101)) g (List.replicate n 0)):=zH (hN3.keep ((zb _ _).alloc (zn _) _));have HQ4:=zH (zd.new w3 [.slice (some ⟨g,0,none⟩) n n,.int .i64 most] 101);simp only[hg];have HQ4:Hid (zd (w3.alloc (.cells #[.slice (some ⟨g,0,none⟩) n n,.int .i64 most] 101)) w3.heap.size [.slice (some ⟨g,0,none⟩) n n,.int .i64 most] 101):=HQ4;obtain⟨q,hq⟩:∃q,w3.heap.size=q:=⟨_,rfl⟩
 rw[hq]at HQ4 hgl;simp only[hq];generalize w3.alloc (.cells #[.slice (some ⟨g,0,none⟩) n n,.int .i64 most] 101)=w4 at*
 have HB4:=zH hB4;have HL0:Hid ((List.replicate n (0:Int)).length=n):=zH (Wj ..);have hs0:∀x ∈List.replicate n (0:Int),-0≤x∧x≤0:=fun x hx=>by have:=(Wi.mp hx).2;omega
 have hs1:=qnj hs0 (XE 0) (i:=b) (b:=1) (by omega);have HS0:Hid (∀x ∈List.replicate n (0:Int),-1000≤x∧x≤1000):=zH (fun x hx=>by have:=hs0 x hx;omega);have HS1:Hid (∀x ∈vc (List.replicate n (0:Int)) b 1,-1000≤x∧x≤1000):=zH (fun x hx=>by have:=hs1 x hx;omega);have HL1:Hid ((vc (List.replicate n (0:Int)) b 1).length=n):=zH (by rw[q3k];exact HL0.out);obtain⟨L1,hL1⟩:∃L,vc (List.replicate n (0:Int)) b 1=L:=⟨_,rfl⟩
 rw[hL1]at HS1 HL1 HR;have HA1:=zH hL1;generalize List.replicate n (0:Int)=L0 at*
 clear hs0 hs1 hN3 hB4 HO3 HB3 hL1;have q0:=HQ4.out.cells 0 _ rfl;go_upto_region 3 with(go_at_call 146;(with_reducible refine(qeh HL0 HN4 HNL HS0 (zH ⟨by omega,by omega⟩) HA1).mono ?_);rintro e w5 ⟨rfl,hn5,hg5⟩;have HN5:=zH hn5;have HQ5:Hid (zd w5 q [.slice (some ⟨g,0,none⟩) n n,.int .i64 most] 101):=zH (q8z HQ4.out hg5 (by omega));have HB5:=zH (HB4.out.grown hg5 (Xh (zd.lt HN4.out)) (fun k e=>by cases e;exact zn _));clear hn5 hg5)
 clear q0;have q0:=HQ5.out.cells 0 _ rfl;go_upto_region 4 with(go_at_call 146;(with_reducible refine(qeh HL1 HN5 HNL HS1 (zH ⟨by omega,by omega⟩) HR).mono ?_);rintro e w6 ⟨rfl,hn6,hg6⟩;have HN6:=zH hn6;have HQ6:Hid (zd w6 q [.slice (some ⟨g,0,none⟩) n n,.int .i64 most] 101):=zH (q8z HQ5.out hg6 (by omega));have HB6:=zH (HB5.out.grown hg6 (Xh (zd.lt HN5.out)) (fun k e=>by cases e;exact zn _));clear hn6 hg6)
 clear q0;have q0:=HQ6.out.cells 0 _ rfl;have q1:=HQ6.out.cells 1 _ rfl;have HR6:Hid (zd w6 w.heap.size [.slice none 0 0,.int .i64 0] 101):=zH (HQ1.out.keep HB6.out (by omega));have r0:=HR6.out.cells 0 _ rfl;have r1:=HR6.out.cells 1 _ rfl;have f0:=HR6.out.free 0;have f1:=HR6.out.free 1;go_wp2_with fail
 have hW7:zd ((w6.setCell ⟨w.heap.size,0,none⟩ (.slice (some ⟨g,0,none⟩) n n)).setCell ⟨w.heap.size,1,none⟩ (.int .i64 most)) w.heap.size [.slice (some ⟨g,0,none⟩) n n,.int .i64 most] 101:=(HR6.out.set 0 _).set 1 _;have p0:=hW7.cells 0 _ rfl;have p1:=hW7.cells 1 _ rfl;refine Xl (v:= .agg #[.slice (some ⟨g,0,none⟩) n n,.int .i64 most]) (by simp[results,Tryz.results92,go_sem,p0,p1]) rfl ⟨g,rfl,by omega,?_,?_⟩
 ·exact((Below.heap_setCell _ _ _ g (by show g≠w.heap.size;omega)).trans (Below.heap_setCell _ _ _ g (by show g≠w.heap.size;omega))).trans HN6.out
 ·exact((HW1.out.trans (HB6.out.mono (by omega))).setCell (p:=⟨w.heap.size,0,none⟩) (zn _) _).setCell (p:=⟨w.heap.size,1,none⟩) (zn _) _
theorem qbb{n:Nat}{a b most:Int}{L:List Int}{w:World}(hn:Hid (n≤1000))(hr:Hid (jD n a b most=(L,most))):
  Calls Tryz.prog 92 #[.int .i64 n,.int .i64 b,.int .i64 a,.int .i64 most] w fun e w'=>∃g,e= .returned (.agg #[.slice (some ⟨g,0,none⟩) n n,.int .i64 most])∧w.heap.size≤g∧qg w' g L∧Below w.heap.size w w':=by
 have H:=qjv n a b most w hn.out;rw[hr.out]at H;exact H
end Go.Proofs.YtcmiljnbmgkdnaaGreat
