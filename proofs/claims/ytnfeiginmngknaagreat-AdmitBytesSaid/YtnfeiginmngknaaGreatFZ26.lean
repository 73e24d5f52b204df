import Derived.Test.YtnfeiginmngknaaGreatFZ25
import Derived.Test.YtnfeiginmngknaaGreatFZ24
import Derived.Maps.AppendAt
namespace Go.Proofs.YtnfeiginmngknaaGreat
set_option maxRecDepth 100000
set_option linter.unusedVariables false
set_option linter.unusedSimpArgs false
open Go.ChangeShapes Go.WideShapes Go.ChangeAt Go.RowKit
def L9(r:df)(w:World)(e:Ending)(w':World):Prop:=
 ∃A c A' c',e= .returned (.tuple #[.slice A r.after.length c,.slice A' r.next.length c',.int .i64 r.err])/\zd zf 2 w' w'.heap.size A c r.after/\zd zu 1 w' w'.heap.size A' c' r.next/\Below w.heap.size w w'
def ik(r:df)(w:World)(e:Ending)(w':World):Prop:=
 ∃A c A' c',e= .returned (.tuple #[.slice A r.after.length c,.slice A' r.next.length c',.int .i64 r.err])/\zd zf 2 w' w'.heap.size A c r.after/\zd zu 1 w' w'.heap.size A' c' r.next/\Below w.heap.size w w'/\∀ad,A'=some ad->w.heap.size<=ad.block
theorem ik.is{r:df}{w:World}{e:Ending}{w':World}(h:ik r w e w'):L9 r w e w':=by
 obtain⟨A,c,A',c',h1,h2,h3,h4,_⟩:=h;exact⟨A,c,A',c',h1,h2,h3,h4⟩
theorem gK(n:Int){w w':World}(hb:Below w.heap.size w w'):ik (qS n) w (.returned (.tuple #[.slice none 0 0,.slice none 0 0,.int .i64 n])) w':=
 ⟨none,0,none,0,rfl,⟨zn _,by omega,fun i t hi=>by simp[qS]at hi⟩,⟨zn _,by omega,fun i t hi=>by simp[qS]at hi⟩,hb,fun ad e=>by cases e⟩
def ZK(sup:List Int)(op:Int)(TK GV:List (Int×Int))(nl:List Int)(st:List (Int×Int)):df:=
 if st.length<TK.length\/8<st.length - TK.length+GV.length then qS 4 else
 if((st.drop (st.length - TK.length)).zip TK).all (fun p=>vM sup op p.1 p.2)=true then⟨st.take (st.length - TK.length)++GV,nl,0⟩else qS 4
theorem Km{m:za}{x:zl}{pc a b:Int}:qT m x pc 6 a b []=qS 4:=by
 unfold qT;split
 ·rfl
 ·rw[Xb (Or.inl ⟨rfl,rfl⟩)]
theorem y7{m:za}{x:zl}{pc op a b:Int}{st:List (Int×Int)}(h:¬(jt pc op a).head?.any (fun n=>decide ((x.code.length:Int)<=n))=true)(h6:¬(op=6/\st=[])):
  qT m x pc op a b st=ZK (zy m.classes) op (takes m x op a b st) (Jv m x op a b st) (jt pc op a) st:=by
 unfold qT ZK;rw[Xa h];by_cases g:st.length<(takes m x op a b st).length\/8<st.length - (takes m x op a b st).length+(Jv m x op a b st).length
 ·rw[Xb (Or.inr g),Xb g]
 ·rw[Xa g,Xa (fun q=>q.elim h6 g)]
theorem eu(w:World)(T:TypeId)(vs us:List Value):zQ ((w.alloc (.cells vs.toArray T)).alloc (.cells us.toArray T)).drew w.heap.size vs/\zQ ((w.alloc (.cells vs.toArray T)).alloc (.cells us.toArray T)).drew (w.heap.size+1) us/\
  Below w.heap.size w ((w.alloc (.cells vs.toArray T)).alloc (.cells us.toArray T)).drew/\w.heap.size<((w.alloc (.cells vs.toArray T)).alloc (.cells us.toArray T)).drew.heap.size/\w.heap.size+1<((w.alloc (.cells vs.toArray T)).alloc (.cells us.toArray T)).drew.heap.size:=by
 have z1:(w.alloc (.cells vs.toArray T)).heap.size=w.heap.size+1:=by simp
 have z2:((w.alloc (.cells vs.toArray T)).alloc (.cells us.toArray T)).drew.heap.size=w.heap.size+2:=by simp
 have hb:Below (w.heap.size+1) (w.alloc (.cells vs.toArray T)) ((w.alloc (.cells vs.toArray T)).alloc (.cells us.toArray T)).drew:=((zb _ _).alloc (by omega) _).drew;have h2:=qr (w.alloc (.cells vs.toArray T)) us T;rw[z1]at h2;exact⟨(qr w vs T).keep hb (by omega),h2,(zk).trans (hb.mono (by omega)),by omega,by omega⟩
theorem Q4(x:zl):(vb x).length<=2:=by
 unfold vb;split
 ·exact Xn _
 ·exact Nat.le_succ _
theorem qjr{c:Prop}[Decidable c]{A B:List (Int×Int)}(hA:A.length<=2)(hB:B.length<=2):(if c then A else B).length<=2:=by
 by_cases g:c
 ·rw[Xb g];exact hA
 ·rw[Xa g];exact hB
theorem R9(m:za)(x:zl)(op a b:Int):(jg m x op a b).length<=2:=by
 unfold jg
 repeat' apply qjr
 all_goals first|exact Q4 _|exact Xn _|exact Nat.le_succ _|exact zn _
theorem qj1{sup:List Int}{op:Int}{TK GV:List (Int×Int)}{nl:List Int}{st:List (Int×Int)}{d:Nat}(hd:st.length - TK.length=d)(h0:¬st.length<TK.length)(h:¬8<d+GV.length):
  ZK sup op TK GV nl st=if((st.drop d).zip TK).all (fun p=>vM sup op p.1 p.2)=true then⟨st.take d++GV,nl,0⟩else qS 4:=by unfold ZK;rw[hd,Xa (fun q=>q.elim h0 h)]
theorem qhx{sup:List Int}{op t0 t1 u1:Int}:vM sup op (t0,t1) (0,u1)=true:=by unfold vM;rw[Xb rfl]
theorem AO{sup:List Int}{op t0 t1 u1:Int}:vM sup op (t0,t1) (4,u1)=(kS t0&& !(decide (op=34)&& decide (t0=2))):=by unfold vM;rw[Xa (show ¬(4:Int)=0 by decide),Xb rfl]
theorem qhw{sup:List Int}{op t0 t1 u0 u1:Int}(h0:¬u0=0)(h4:¬u0=4):vM sup op (t0,t1) (u0,u1)=zB sup t0 t1 u0 u1:=by unfold vM;rw[Xa h0,Xa h4]
theorem q0n{t0 t1:Int}{w:World}{r:Bool}(HR:Hid (kS t0=r)):Calls Tryz.prog 97 #[zF t0 t1] w fun e w'=>e= .returned (.bool r)/\Below w.heap.size w w':=by
 have H:=RD t0 t1 w;rw[HR.out]at H;exact H
theorem Rp{m:za}{h:zh}{x y t0 t1:Int}{w0 w:World}{r:Bool}(HI:Hid (zr w0 w0.heap.size h m))(HX:Hid (Below w0.heap.size w0 w))(HN:Hid (m.classes.length<=1000))(HR:Hid (zB (zy m.classes) x y t0 t1=r)):
  Calls Tryz.prog 91 #[.slice h.A0 m.classes.length h.c0,zF x y,zF t0 t1] w fun e w'=>e= .returned (.bool r)/\Below w.heap.size w w':=by
 have H:=gT (zy m.classes) x y t0 t1 h.A0 h.c0 w.heap.size w (by rw[kE];have:=HN.out;omega) (zn _) (eB (HI.out.now HX.out).classes.row);rw[HR.out,kE]at H;exact H
theorem U4(w:World)(v:Value)(T:TypeId):(w.alloc (.cells #[v] T)).ownsRow w.heap.size T 1 (.slice (some ⟨w.heap.size,0,none⟩) 1 1) 1 [v]:=
 ⟨rfl,.inr ⟨w.heap.size,1,#[v],rfl,zn _,Xz _ _,zn _,by unfold maxLen;omega,rfl,rfl⟩⟩
def zL(sup:List Int)(s t:List (Int×Int)):Prop:=s.length=t.length/\∀(i:Nat) (h1:i<s.length) (h2:i<t.length),zB sup s[i].1 s[i].2 t[i].1 t[i].2=true
theorem q85{sup:List Int}{k n k' n':Int}(h:zB sup k n k' n'=true)(g:kS k'=true):kS k=true:=by
 rw[JN]at h;unfold kS at g⊢
 rw[Xw]at g⊢
 omega
theorem qd2{sup:List Int}{k n k' n':Int}(h:zB sup k n k' n'=true)(g:k=2):k'=2:=by
 rw[JN]at h;omega
theorem qe4{sup:List Int}{op:Int}{a b u:Int×Int}(h:zB sup a.1 a.2 b.1 b.2=true)(g:vM sup op b u=true):vM sup op a u=true:=by
 unfold vM at g⊢
 by_cases h0:u.1=0
 ·rw[Xb h0]
 rw[Xa h0]at g⊢
 by_cases h4:u.1=4
 ·rw[Xb h4]at g⊢
  simp only[Xt,Bool.not_eq_true',Bool.and_eq_false_iff,decide_eq_false_iff_not]at g⊢
  exact⟨q85 h g.1,g.2.imp id (fun q r=>q (qd2 h r))⟩
 ·rw[Xa h4]at g⊢
  exact IW h g
theorem zL.take{sup:List Int}{s t:List (Int×Int)}(h:zL sup s t)(d:Nat):zL sup (s.take d) (t.take d):=by
 refine⟨by rw[XW,XW,h.1],fun i h1 h2=> ?_⟩;rw[List.getElem_take,List.getElem_take];exact h.2 i _ _
theorem zL.append{sup:List Int}{s t u v:List (Int×Int)}(h:zL sup s t)(g:zL sup u v):zL sup (s++u) (t++v):=by
 refine⟨by rw[Xh,Xh,h.1,g.1],fun i h1 h2=> ?_⟩;by_cases q:i<s.length
 ·rw[List.getElem_append_left q,List.getElem_append_left (by rw[<-h.1];exact q)];exact h.2 i _ _
 ·rw[List.getElem_append_right (by omega),List.getElem_append_right (by rw[<-h.1];omega)];have e:i - t.length=i - s.length:=by rw[h.1]
  simp only[e];exact g.2 _ _ _
theorem qij{sup:List Int}{op:Int}{s t TK:List (Int×Int)}(h:zL sup s t)(g:(t.zip TK).all (fun p=>vM sup op p.1 p.2)=true):(s.zip TK).all (fun p=>vM sup op p.1 p.2)=true:=by
 rw[Xy]at g⊢
 intro p hp;obtain⟨i,hi,rfl⟩:=We hp;rw[List.length_zip]at hi;have h1:i<s.length:=by omega
 have h2:i<t.length:=by rw[<-h.1];exact h1
 have h3:i<TK.length:=by omega
 have hz:i<(t.zip TK).length:=by rw[List.length_zip];omega
 have q:=g _ (Xd hz);rw[List.getElem_zip]at q⊢
 exact qe4 (h.2 i h1 h2) q
theorem zL.drop{sup:List Int}{s t:List (Int×Int)}(h:zL sup s t)(d:Nat):zL sup (s.drop d) (t.drop d):=by
 refine⟨by rw[XK,XK,h.1],fun i h1 h2=> ?_⟩;rw[List.getElem_drop,List.getElem_drop];exact h.2 _ _ _
theorem qaw{sup:List Int}{op:Int}{TK GV x8 s t:List (Int×Int)}{nl:List Int}(h:zL sup s t)(hg:zL sup x8 GV)(e:(ZK sup op TK GV nl t).err=0):
  (ZK sup op TK x8 nl s).err=0/\(ZK sup op TK x8 nl s).next=(ZK sup op TK GV nl t).next/\zL sup (ZK sup op TK x8 nl s).after (ZK sup op TK GV nl t).after:=by
 by_cases g:t.length<TK.length\/8<t.length - TK.length+GV.length
 ·unfold ZK at e;rw[Xb g]at e;exact absurd e (show ¬(4:Int)=0 by decide)
 by_cases q:((t.drop (t.length - TK.length)).zip TK).all (fun p=>vM sup op p.1 p.2)=true
 ·have e1:ZK sup op TK GV nl t=⟨t.take (t.length - TK.length)++GV,nl,0⟩:=by unfold ZK;rw[Xa g,Xb q]
  have e2:ZK sup op TK x8 nl s=⟨s.take (t.length - TK.length)++x8,nl,0⟩:=by
   unfold ZK;rw[h.1,hg.1,Xa g,Xb (qij (h.drop _) q)]
  rw[e1,e2];exact⟨rfl,rfl,(h.take _).append hg⟩
 ·unfold ZK at e;rw[Xa g,Xa q]at e;exact absurd e (show ¬(4:Int)=0 by decide)
theorem zL.nil_iff{sup:List Int}{s t:List (Int×Int)}(h:zL sup s t):s=[]↔t=[]:=by
 rw[<-List.length_eq_zero_iff,<-List.length_eq_zero_iff,h.1]
theorem zL.last{sup:List Int}{s t:List (Int×Int)}(h:zL sup s t)(hs:s≠ []):zB sup (s.getLast?.getD (0,0)).1 (s.getLast?.getD (0,0)).2 (t.getLast?.getD (0,0)).1 (t.getLast?.getD (0,0)).2=true:=by
 have h0:0<s.length:=List.length_pos_iff.mpr hs;have h1:s.length - 1<s.length:=by omega
 have h2:s.length - 1<t.length:=by rw[<-h.1];exact h1
 rw[List.getLast?_eq_getElem?,List.getLast?_eq_getElem?,<-h.1,Xc h1,Xc h2];exact h.2 _ _ _
theorem zL.self{sup:List Int}{s:List (Int×Int)}(h:∀t ∈s,zB sup t.1 t.2 t.1 t.2=true):zL sup s s:=⟨rfl,fun _ h1 _=>h _ (Xd h1)⟩
theorem q5u{m:za}{x:zl}{op a b:Int}{s t:List (Int×Int)}{sup:List Int}(h:zL sup s t):takes m x op a b s=takes m x op a b t:=by
 unfold takes;by_cases hs:s=[]
 ·rw[hs,h.nil_iff.mp hs]
 ·have ht:t≠ []:=fun e=>hs (h.nil_iff.mpr e);by_cases h6:op=6
  ·rw[Xb ⟨h6,hs⟩,Xb ⟨h6,ht⟩]
  ·rw[Xa (fun q=>h6 q.1),Xa (fun q=>h6 q.1)]
theorem q8h{m:za}{x:zl}{op a b:Int}{s t:List (Int×Int)}{sup:List Int}(h:zL sup s t)(hr:∀t ∈jg m x op a b,zB sup t.1 t.2 t.1 t.2=true):zL sup (Jv m x op a b s) (Jv m x op a b t):=by
 unfold Jv;by_cases hs:s=[]
 ·rw[hs,h.nil_iff.mp hs,Xa (fun q=>q.2 rfl)];exact zL.self hr
 ·have ht:t≠ []:=fun e=>hs (h.nil_iff.mpr e);by_cases h6:op=6
  ·rw[Xb ⟨h6,hs⟩,Xb ⟨h6,ht⟩];have hl:=h.last hs;refine⟨rfl,fun i h1 h2=> ?_⟩
   match i,h1 with
   |0,_=>exact hl
   |1,_=>exact hl
  ·rw[Xa (fun q=>h6 q.1),Xa (fun q=>h6 q.1)];exact zL.self hr
theorem qb0{m:za}{x:zl}{pc op a b:Int}{s t:List (Int×Int)}(h:zL (zy m.classes) s t)(hr:∀t ∈jg m x op a b,zB (zy m.classes) t.1 t.2 t.1 t.2=true)(e:(qT m x pc op a b t).err=0):
  (qT m x pc op a b s).err=0/\(qT m x pc op a b s).next=(qT m x pc op a b t).next/\zL (zy m.classes) (qT m x pc op a b s).after (qT m x pc op a b t).after:=by
 by_cases ho:(jt pc op a).head?.any (fun n=>decide ((x.code.length:Int)<=n))=true
 ·unfold qT at e;rw[Xb ho]at e;exact absurd e (show ¬(4:Int)=0 by decide)
 by_cases h6:op=6/\t=[]
 ·obtain⟨rfl,rfl⟩:=h6;rw[Km]at e;exact absurd e (show ¬(4:Int)=0 by decide)
 have h6':¬(op=6/\s=[]):=fun q=>h6 ⟨q.1,h.nil_iff.mp q.2⟩;rw[y7 ho h6]at e⊢
 rw[y7 ho h6',q5u h];exact qaw h (q8h h hr) e
theorem JO{c:Prop}[Decidable c]{A B:List (Int×Int)}{P:Int×Int->Prop}(hA:c->∀t ∈A,P t)(hB:¬c->∀t ∈B,P t):∀t ∈(if c then A else B),P t:=by
 by_cases g:c
 ·rw[Xb g];exact hA g
 ·rw[Xa g];exact hB g
theorem YR{P:Int×Int->Prop}{u:Int×Int}(h:P u):∀t ∈ [u],P t:=fun t ht=>by
 rw[XR.mp ht];exact h
theorem Ad{cl:List zW}{t:Int×Int}(h:jl t.1 t.2 cl.length=true):zB (zy cl) t.1 t.2 t.1 t.2=true:=by
 unfold jl at h;rw[Xw]at h;refine pF (by omega) (fun h3=> ?_);rw[kE];omega
theorem IM{m:za}(hm:zP m){c:Int}{t:Int×Int}(h:t ∈qg m.classes c):jl t.1 t.2 m.classes.length=true:=by
 unfold qg at h;obtain⟨j,_,hj⟩:=List.mem_flatMap.mp h;unfold ZM at hj;cases hc:m.classes[j.toNat]? with
 |none=>rw[hc]at hj;simp at hj
 |some y=>
  rw[hc]at hj;have h1:=hm.cls _ _ hc;unfold jG at h1;simp only[Xt]at h1;have h2:=h1.2.1;unfold vC at h2;exact Xy.mp h2 _ hj
theorem UX{m:za}{y:zl}(hy:Md m y):∀t ∈vb y,zB (zy m.classes) t.1 t.2 t.1 t.2=true:=by
 unfold vb;refine JO (fun _ t ht=>absurd ht (by simp)) (fun h5=>YR ?_);rcases hy.rt with h|h
 ·rw[h]at h5;exact absurd rfl h5
 ·exact Ad h
theorem ic{l:List (Int×Int)}{a:Int}(h0:0<=a)(h1:a<l.length):l[a.toNat]?.getD (0,0) ∈l:=by
 have h2:a.toNat<l.length:=by omega
 rw[Xc h2];exact Xd h2
theorem qdd{m:za}{x:zl}{f:Nat}{op a b:Int}(hm:zP m)(hg:m.methods[f]? =some x)(hi:qs op a b=true)(hn:zK m x op a b=true):
  ∀t ∈jg m x op a b,zB (zy m.classes) t.1 t.2 t.1 t.2=true:=by
 obtain⟨o0,o1,a0,a1,b0,b1⟩:=YN hi;have hx:=hm.method (Xr hg);have s1:zB (zy m.classes) 1 0 1 0=true:=pF (.inl rfl) (fun q=>by cases q);have s2:zB (zy m.classes) 2 0 2 0=true:=pF (.inr (.inl rfl)) (fun q=>by cases q);have s4:zB (zy m.classes) 4 0 4 0=true:=pF (.inr (.inr (.inr rfl))) (fun q=>by cases q);have s3:a<m.classes.length->zB (zy m.classes) 3 a 3 a=true:=fun q=>pF (.inr (.inr (.inl rfl))) (fun _=>⟨a0,by rw[kE];exact q⟩);unfold jg;refine JO (fun _=>YR s1) (fun _=> ?_);refine JO (fun _=>YR s4) (fun _=> ?_);refine JO (fun h=>YR ?_) (fun _=> ?_)
 ·have hl:=KE (.inl h) hn;unfold vB;rw[Xb a0];have hmem:=ic (l:=x.args++x.locals) a0 (by rw[Xh];omega);rcases Xu.mp hmem with q|q
  ·exact Ad (hx.at_ _ q)
  ·exact Ad (hx.lt _ q)
 refine JO (fun _=>YR s1) (fun _=> ?_);refine JO (fun _=>YR s1) (fun _=> ?_);refine JO (fun h=>YR (s3 (PV (.inl h) hn))) (fun _=> ?_);refine JO (fun _=>YR s2) (fun _=> ?_);refine JO (fun _=>YR s1) (fun _=> ?_);refine JO (fun _=>YR s1) (fun _=> ?_);refine JO (fun h=>YR ?_) (fun _=> ?_)
 ·exact Ad (IM hm (ic b0 (oZ (.inl h) hn).2))
 refine JO (fun h=>YR ?_) (fun _=> ?_)
 ·exact Ad (hm.st _ (ic a0 (uH (.inl h) hn)))
 refine JO (fun h=>YR (s3 (PV (.inr h) hn))) (fun _=> ?_);refine JO (fun h=> ?_) (fun _=> ?_)
 ·subst h;have h1:=o8 hn;have h2:a.toNat<m.methods.length:=by omega
  refine UX (hm.method ?_);unfold zA;rw[Xc h2];exact Xd h2
 refine JO (fun h=> ?_) (fun _=> ?_)
 ·subst h;obtain⟨_,k,y,hk,hy,_⟩:=o7 hm a0 b0 hn;refine UX (hm.method ?_);unfold zA Yz;rw[hk,Wo,Xo,hy];exact Xr hy
 refine JO (fun _=>YR s1) (fun _=> ?_);exact fun t ht=>absurd ht (by simp)
theorem Iz{m:za}{f pc:Int}{s t:List (Int×Int)}(hm:zP m)(h:zL (zy m.classes) s t)(e:(zI m f pc t).err=0):
  (zI m f pc s).err=0/\(zI m f pc s).next=(zI m f pc t).next/\zL (zy m.classes) (zI m f pc s).after (zI m f pc t).after:=by
 unfold zI at e⊢
 by_cases g:0<=f/\f<m.methods.length/\0<=pc/\pc<(zA m f).code.length
 ·rw[Xb g]at e;rw[Xb g,Xb g];cases hi:(zA m f).code[pc.toNat]? with
  |none=>rw[hi]at e;exact absurd e (show ¬(1:Int)=0 by decide)
  |some i=>
   rw[hi]at e;have hf:f.toNat<m.methods.length:=by omega
   have hg:m.methods[f.toNat]? =some (zA m f):=by unfold zA;rw[Xc hf];rfl
   have hx:=hm.method (Xr hg);have him:=Xr hi;exact qb0 h (qdd hm hg (hx.fits.ct _ him) (hx.co _ him)) e
 ·rw[Xa g]at e;exact absurd e (show ¬(1:Int)=0 by decide)
structure zq where
 seen:Bool
 stack:List (Int×Int)
deriving DecidableEq
def vd:qV zq:=fun w B p s=>w.cell? p=some (.bool s.seen)/\zM zf 2 w B (zc p 1) s.stack
theorem vd.keeps:ZC vd:=fun _ _ _ _ p _ h hp hC hc=>⟨(hc _ hp).trans h.1,zM.keeps zf.keeps 2 h.2 hp hC hc⟩
theorem Vp.keeps:ZC (zM vd 2):=zM.keeps vd.keeps 2
def zx(S:List zq)(i:Int):zq:=S[i.toNat]?.getD ⟨false,[]⟩
theorem bS{S:List zq}{i:Nat}(h:i<S.length):zx S (i:Int)=S[i]:=by unfold zx;rw[Xo,Xc h];rfl
def wJ(sup:List Int)(a b:List (Int×Int)):Bool:=decide (a.length=b.length)&& (a.zip b).all fun p=>zB sup p.1.1 p.1.2 p.2.1 p.2.2
theorem IU{sup:List Int}{a b:List (Int×Int)}:wJ sup a b=true↔zL sup a b:=by
 unfold wJ zL;rw[Xt,Xw,Xy];constructor
 ·rintro⟨h1,h2⟩;refine⟨h1,fun i g1 g2=> ?_⟩;have hz:i<(a.zip b).length:=by rw[List.length_zip];omega
  have:=h2 _ (Xd hz);rw[List.getElem_zip]at this;exact this
 ·rintro⟨h1,h2⟩;refine⟨h1,fun p hp=> ?_⟩;obtain⟨i,hi,rfl⟩:=We hp;rw[List.getElem_zip];exact h2 i _ _
def onB(m:za)(S:List zq)(af:List (Int×Int))(n:Int):Bool:=(zx S n).seen&& wJ (zy m.classes) af (zx S n).stack
def goB(m:za)(f pc:Int)(S:List zq)(st:List (Int×Int)):Bool:=decide ((zI m f pc st).err=0)&& (zI m f pc st).next.all (onB m S (zI m f pc st).after)
def kR(m:za)(f:Int)(S:List zq)(pc:Int):Bool:= !(zx S pc).seen||goB m f pc S (zx S pc).stack
def Ff(m:za)(f:Int)(S:List zq):Bool:=decide (0<S.length)&& (decide (S.length=(zA m f).code.length)&& ((zx S 0).seen&& decide ((zx S 0).stack.length=0)))
def vL(m:za)(f:Int)(S:List zq):Bool:=Ff m f S&& (List.range S.length).all (fun pc=>kR m f S (pc:Int))
def bW(m:za)(maps:List (List zq)):Bool:=decide (maps.length=m.methods.length)&& (List.range maps.length).all (fun f=>vL m (f:Int) (maps[f]?.getD []))
theorem D8{n:Nat}{p:Nat->Bool}:(List.range n).all p=true↔∀i<n,p i=true:=by
 rw[Xy];exact⟨fun h i hi=>h i (Wb.mpr hi),fun h i hi=>h i (Wb.mp hi)⟩
theorem Tw{n:Nat}{p:Nat->Bool}{i:Nat}(hi:i<n)(h:p i=false):(List.range n).all p=false:=by
 rw[X6];intro q;have:=D8.mp q i hi;rw[h]at this;cases this
theorem AY{m:za}{x:zl}{F P:Nat}{op a b:Int}{st:List (Int×Int)}(hi:qs op a b=true)(hn:zK m x op a b=true)(he:(qT m x P op a b st).err=0):∀n ∈(qT m x P op a b st).next,0<=n/\n<x.code.length:=by
 obtain⟨o0,o1,a0,a1,b0,b1⟩:=YN hi;have e4:¬(qS 4).err=0:=by unfold qS;decide
 unfold qT at he⊢
 by_cases h1:(jt P op a).head?.any (fun n=>decide ((x.code.length:Int)<=n))=true
 ·rw[Xb h1]at he;exact absurd he e4
 rw[Xa h1]at he⊢
 by_cases h2:(op=6/\st=[])\/st.length<(takes m x op a b st).length\/8<st.length - (takes m x op a b st).length+(Jv m x op a b st).length
 ·rw[Xb h2]at he;exact absurd he e4
 rw[Xa h2]at he⊢
 by_cases h3:((st.drop (st.length - (takes m x op a b st).length)).zip (takes m x op a b st)).all (fun p=>vM (zy m.classes) op p.1 p.2)=true
 ·rw[Xb h3];intro n hm;dsimp only at hm;unfold jt at hm h1;by_cases h18:op=18
  ·rw[Xb h18]at hm h1;simp at hm h1;omega
  ·rw[Xa h18]at hm h1;by_cases h19:op=19
   ·rw[Xb h19]at hm h1;have:=RV (.inr h19) hn;simp at hm h1;omega
   ·rw[Xa h19]at hm h1;by_cases JB:op=33
    ·rw[Xb JB]at hm;simp at hm
    ·rw[Xa JB]at hm h1;simp at hm h1;omega
 ·rw[Xa h3]at he;exact absurd he e4
def kY(x:zl)(i:Int):Int:=x.phi[i.toNat]?.getD 0
def JU(m:za)(x:zl)(pc:Nat):Int:=match x.code[pc]? with
 |some i=>QP m i.1 i.2.1 i.2.2
 |none=>0
def Qm(m:za)(f:Nat)(S:List zq)(pc:Nat):List Int:=(zI m (f:Int) (pc:Int) (zx S (pc:Int)).stack).next
def dh(m:za)(x:zl)(pc:Nat)(q:Int):Bool:=decide (JU m x pc+kY x q<=kY x pc)
def Ve(m:za)(f:Nat)(x:zl)(S:List zq)(pc:Nat):Bool:= !(zx S (pc:Int)).seen||(Qm m f S pc).all (dh m x pc)
def mO(m:za)(f:Nat)(x:zl)(S:List zq):Bool:=decide (kY x 0<=x.pot)&& (List.range x.code.length).all (Ve m f x S)
def VD(m:za)(l:List (List zq))(f:Nat):Bool:= !mO m f (zA m (f:Int)) (l[f]?.getD [])
def Zy(m:za)(l:List (List zq)):Int:=match(List.range m.methods.length).find? (VD m l)with
 |some f=>(f:Int)
 |none=> -1
theorem q8r{p:Nat->Bool}{n f:Nat}(hf:f<n)(h:∀g,g<f->p g=false)(hp:p f=true):(List.range n).find? p=some f:=by
 simp_all
theorem Lx{m:za}{l:List (List zq)}{f:Nat}(hf:f<m.methods.length)(h:∀g,g<f->VD m l g=false)(hp:VD m l f=true):Zy m l=(f:Int):=by
 unfold Zy;rw[q8r hf h hp]
theorem Tx{m:za}{l:List (List zq)}(h:∀g,g<m.methods.length->VD m l g=false):Zy m l= -1:=by
 unfold Zy
 grind
theorem qjq{m:za}{f pc:Nat}{x:zl}{S:List zq}(hp:pc<x.code.length)(h:Ve m f x S pc=false):mO m f x S=false:=by
 unfold mO
 grind
theorem qh4{m:za}{f:Nat}{x:zl}{S:List zq}(h0:kY x 0<=x.pot)(h:∀pc,pc<x.code.length->Ve m f x S pc=true):mO m f x S=true:=by
 unfold mO
 grind
def vY(n:Nat)(a b most:Int):List Int×Int:=((List.range n).map fun v:Nat=>(if(v:Int)=b then 1 else 0) - (if(v:Int)=a then 1 else 0),most)
def q9(m:za)(f:Nat)(x:zl)(S:List zq)(pc:Nat):List (List Int×Int):=
 if(zx S (pc:Int)).seen=true then
  if Qm m f S pc=[]then [vY x.code.length (pc:Int) (-1) 0]else(Qm m f S pc).map fun q=>vY x.code.length (pc:Int) q (-(JU m x pc))
 else []
def mD(m:za)(f:Nat)(x:zl)(S:List zq):Nat->List (List Int×Int)
 |0=> [vY x.code.length (-1) 0 x.pot]
 |pc+1=>mD m f x S pc++q9 m f x S pc
def bT(m:za)(l:List (List zq))(f:Int):List (List Int×Int):=if 0<=f/\f<m.methods.length then mD m f.toNat (zA m f) (l[f.toNat]?.getD []) (zA m f).code.length else []
def ZS(n:Nat)(maps:List (List zq)):Prop:=∀S ∈maps,S.length<=n/\∀s ∈S,s.stack.length<=n
theorem ZS.more{n k:Nat}{maps:List (List zq)}(h:ZS n maps)(hk:n<=k):ZS k maps:=fun S hS=>⟨Xe (h S hS).1 hk,fun s hs=>Xe ((h S hS).2 s hs) hk⟩
def eU(d:Nat)(s:zq):Nat:=if d<s.stack.length then s.stack.length else d
def kT(S:List zq):Nat:=S.foldl eU 0
theorem Un{S:List zq}{k:Nat}(hk:k<S.length):kT (S.take (k+1))=eU (kT (S.take k)) S[k]:=by
 unfold kT;rw[Xx,Xc hk,Wg];rfl
theorem ER{S:List zq}{n:Nat}(h:∀s ∈S,s.stack.length<=n):kT S<=n:=by
 have H:∀(S:List zq) (d:Nat),(∀s ∈S,s.stack.length<=n)->d<=n->S.foldl eU d<=n:=by
  intro S
  induction S with
  |nil=>grind
  |cons s S ih=>
   intro d h hd;refine ih _ (by grind) ?_;unfold eU
   grind
 exact H S 0 h (Xn _)
def jy(m:za)(maps:List (List zq))(f:Int):Int:=if 0<=f/\f<m.methods.length then 3+(zA m f).args.length+(zA m f).locals.length+kT (maps[f.toNat]?.getD [])else 0
def bR(m:za)(f:Nat):Int:=if jH (vK m) m.methods.length f f=true then(zA m (f:Int)).depth else 1
def jT(m:za)(maps:List (List zq))(f:Nat):Int:=bR m f*jy m maps (f:Int)
def aF(m:za)(f:Nat):Bool:=jH (vK m) m.methods.length f f&& decide ((zA m (f:Int)).depth<1)
def kQ(m:za):Bool:=(List.range m.methods.length).all fun f=> !aF m f
def vV(m:za)(maps:List (List zq)):List Int:=(List.range m.methods.length).map (QQ (vK m) m.methods.length (jT m maps))
theorem yV(m:za)(maps:List (List zq)):(vV m maps).length=m.methods.length:=by unfold vV;grind
theorem qep{m:za}{maps:List (List zq)}{f:Nat}(h:f<m.methods.length):(vV m maps)[f]? =some (QQ (vK m) m.methods.length (jT m maps) f):=by
 unfold vV
 grind
theorem Ai{m:za}{maps:List (List zq)}{f:Int}:0<=jy m maps f:=by
 unfold jy;omega
theorem Ef{m:za}{maps:List (List zq)}{f:Int}(hm:zP m)(hz:ZS 4000 maps):jy m maps f<=4011:=by
 unfold jy;split
 ·rename_i h;have hlt:f.toNat<m.methods.length:=by omega
  have hx:zA m f ∈m.methods:=by unfold zA;grind
  have h1:=(hm.method hx).all;have h2:kT (maps[f.toNat]?.getD [])<=4000:=by
   cases hs:maps[f.toNat]? with
   |none=>exact Xn _
   |some S=>exact ER (fun s hs'=>(hz S (by grind)).2 s hs')
  omega
 ·omega
theorem SV{m:za}(hm:zP m){f:Nat}(hf:f<m.methods.length):0<=bR m f/\bR m f<=8:=by
 have hx:zA m (f:Int) ∈m.methods:=by unfold zA;grind
 have h1:=(hm.method hx).fits.d0;have h2:=(hm.method hx).fits.d1;unfold bR;omega
theorem p8{m:za}{maps:List (List zq)}(hm:zP m)(f:Nat):0<=jT m maps f:=by
 unfold jT;rcases Xl f m.methods.length with q|q
 ·exact Int.mul_nonneg (SV hm q).1 Ai
 ·have:jy m maps (f:Int)=0:=by unfold jy;omega
  grind
theorem wD{m:za}{maps:List (List zq)}(hm:zP m)(hz:ZS 4000 maps)(f:Nat):jT m maps f<=32088:=by
 unfold jT;rcases Xl f m.methods.length with q|q
 ·have h1:=SV hm q;have h2:=Ef (f:=(f:Int)) hm hz;have h3:0<=jy m maps (f:Int):=Ai;have h4:bR m f*jy m maps (f:Int)<=8*4011:=Int.mul_le_mul h1.2 h2 h3 (by omega);omega
 ·have:jy m maps (f:Int)=0:=by unfold jy;omega
  grind
def pO(B:List Int)(s f:Int):Int:=if oN B f.toNat>s then oN B f.toNat else s
def Jg(B:List Int)(L:List Int):Int:=L.foldl (pO B) 0
theorem q5z{B:List Int}{L:List Int}{k:Nat}(hk:k<L.length):Jg B (L.take (k+1))=pO B (Jg B (L.take k)) L[k]:=by
 unfold Jg;rw[Xx,Xc hk,Wg];rfl
def pI(m:za)(l:List (List zq)):Int:=Jg (vV m l) m.entries
def pX(m:za):Int:=m.statics.length+jp m m.entries
theorem Kb{m:za}(h:jQ m=0){f:Int}(hf:f ∈m.entries):0<=f/\f<m.methods.length:=by
 have hfit:zV m=true:=by
  cases hq:zV m with
  |true=>rfl
  |false=>rw[Az hq]at h;cases h
 have hok:okB m=true:=by
  cases hq:okB m with
  |true=>rfl
  |false=>rw[mr hfit hq]at h;cases h
 unfold okB at hok;simp only[Xt]at hok;have h1:=Xy.mp hok.2.2.2 f hf;have h0:=((ru hfit).et f hf).1;refine⟨h0,?_⟩;rcases Xl f.toNat m.methods.length with q|q
 ·omega
 ·unfold Zz at h1;rw[XE q]at h1;cases h1
theorem Kq{m:za}(h:jQ m=0):Ql m=true:=by
 have hfit:zV m=true:=by
  cases hq:zV m with
  |true=>rfl
  |false=>rw[Az hq]at h;cases h
 have hf:=ru hfit;unfold Ql;rw[Xi (by have:=hf.ml;omega),Xi (by have:=hf.cl;omega),Xi (by have:=hf.il;omega),Xi h];rfl
theorem PR{m:za}(h:Ql m=true):jQ m=0:=by
 unfold Ql at h;simp only[Xt,Xw]at h;exact h.2.2.2
def mx(b x:Int):Int:=if b<x then x else b
def fB(p:List Nat)(t:Int):Bool:= !qb (p.map (fun k:Nat=>(k:Int))) t
def Jh(p:List Nat)(out:Nat->Int)(L:List Int):List Int:=(L.filter (fB p)).map fun t=>out t.toNat
def ZN(EL:List (List Int))(p:List Nat)(out:Nat->Int)(c:List Nat):List Int:=c.flatMap fun g=>Jh p out (EL[g]?.getD [])
theorem q3b{p:List Nat}{out:Nat->Int}{L:List Int}{s:Nat}(h:s<L.length):Jh p out (L.take (s+1))=Jh p out (L.take s)++(if fB p L[s]=true then [out L[s].toNat]else []):=by
 unfold Jh
 grind [Xx,Xc]
theorem q3p{EL:List (List Int)}{p:List Nat}{out:Nat->Int}{c:List Nat}{k:Nat}(h:k<c.length):ZN EL p out (c.take (k+1))=ZN EL p out (c.take k)++Jh p out (EL[c[k]]?.getD []):=by
 unfold ZN;rw[Xx,Xc h,Wa];simp
theorem Ph{p:List Nat}{out:Nat->Int}{L:List Int}:(Jh p out L).length<=L.length:=by
 unfold Jh
 grind
theorem q4g{EL:List (List Int)}{p:List Nat}{out:Nat->Int}{c:List Nat}{M:Nat}(h:∀g:Nat,(EL[g]?.getD []).length<=M):(ZN EL p out c).length<=c.length*M:=by
 unfold ZN
 induction c with
 |nil=>simp
 |cons g c ih=>
  rw[List.flatMap_cons,Xh,XI,Nat.add_mul,Nat.one_mul]
  grind [Ph]
theorem SX{EL:List (List Int)}{p:List Nat}{out:Nat->Int}{c:List Nat}{M:Int}(h:∀t,0<=out t/\out t<=M):∀x ∈ZN EL p out c,0<=x/\x<=M:=fun x hx=>by
 unfold ZN Jh at hx
 grind
def Jr(T:List Int)(i:Nat):Int:=(T.take i).foldl mx (T[0]?.getD 0)
theorem qh2{T:List Int}(h:0<T.length):Jr T 1=T[0]:=by
 unfold Jr;cases T with
 |nil=>simp at h
 |cons x T=>
  show mx x x=x;unfold mx;omega
theorem qcp{T:List Int}{i:Nat}(h:i<T.length):Jr T (i+1)=mx (Jr T i) T[i]:=by
 unfold Jr;rw[Xx,Xc h,Wg];rfl
theorem V4{T:List Int}(h:0<T.length)(h0:∀x ∈T,0<=x):Jr T T.length=T.foldl mx 0:=by
 unfold Jr;rw[XL];cases T with
 |nil=>simp at h
 |cons x T=>
  have hx:=h0 x (XV ..);show T.foldl mx (mx x x)=T.foldl mx (mx 0 x);have e1:mx x x=x:=by unfold mx;omega
  have e2:mx 0 x=x:=by unfold mx;omega
  rw[e1,e2]
theorem qjl{p:List Nat}{t:Nat}:fB p (t:Int)=false↔t ∈p:=by
 unfold fB qb
 grind
section
variable{EL:List (List Int)}{n:Nat}{P:List (List Nat)}{C:Nat->Int}
theorem qes{out:Nat->Int}{p:List Nat}{g:Nat}{L:List Int}{b:Int}(h:∀t ∈L,jH EL n t.toNat g=true↔fB p t=false):jU EL n out g b L=(Jh p out L).foldl mx b:=by
 induction L generalizing b with
 |nil=>rfl
 |cons t L ih=>
  have ih:=fun b=>ih (b:=b) (fun t ht=>h t (XY _ ht));have ht:=h t (XV ..);show jU EL n out g (ZA EL n out g b t) L=_;rw[ih];unfold Jh;rw[List.filter_cons];unfold ZA;cases q:fB p t
  ·grind
  ·have hw:jH EL n t.toNat g=false:=by
    grind
   rw[Xb rfl,List.map_cons,List.foldl_cons];unfold mx
   grind
theorem Qk.takes(h:Qk EL n P)(hE:Jl EL n){i:Nat}(hi:i<P.length)(out:Nat->Int):beyP EL n out P[i]=(ZN EL P[i] out P[i]).foldl mx 0:=by
 have H:∀(c:List Nat) (b:Int),(∀g ∈c,g ∈P[i])->c.foldl (fun b g=>jU EL n out g b (EL[g]?.getD [])) b=(ZN EL P[i] out c).foldl mx b:=by
  intro c
  induction c with
  |nil=>intro b _;rfl
  |cons g c ih=>
   intro b hc;rw[List.foldl_cons,ih _ (fun x hx=>hc x (XY _ hx))];unfold ZN;rw[List.flatMap_cons,Wg,qes (p:=P[i]) (fun t ht=> ?_)];obtain⟨t0,t1⟩:=hE g t ht;obtain⟨k,rfl⟩:=Xj t0;rw[qjl];exact h.stays hi (by grind) (by omega) ht
 exact H _ 0 (fun g hg=>hg)
structure dw(EL:List (List Int))(n:Nat)(C:Nat->Int)(P:List (List Nat))(i:Nat)(O:List Int):Prop where
 len:O.length=n
 low:∀t,0<=oN O t
 top:∀t,oN O t<=400000*i
 old:∀j,(hj:j<P.length)->j<i->∀t ∈P[j],oN O t=QQ EL n C t
theorem dw.start:dw EL n C P 0 (List.replicate n 0):=by
 have h:∀t,oN (List.replicate n 0) t=0:=fun t=>by
  unfold oN
  grind
 exact⟨(by grind),(by grind),(by grind),(by omega)⟩
def Vz(O:List Int)(c:List Nat)(v:Int):List Int:=c.foldl (fun O f=>O.set f v) O
theorem RI(O:List Int)(c:List Nat)(v:Int):(Vz O c v).length=O.length:=by
 unfold Vz
 induction c generalizing O with
 |nil=>rfl
 |cons f c ih=>grind
theorem q4v{O:List Int}{c:List Nat}{v:Int}{k:Nat}(h:k<c.length):Vz O (c.take (k+1)) v=(Vz O (c.take k) v).set c[k] v:=by
 unfold Vz;rw[Xx,Xc h,Wg];rfl
theorem Kv{O:List Int}{c:List Nat}{v:Int}(h:∀f ∈c,f<O.length)(t:Nat):oN (Vz O c v) t=if t ∈c then v else oN O t:=by
 induction c generalizing O with
 |nil=>simp[Vz]
 |cons f c ih=>
  show oN (Vz (O.set f v) c v) t=_;rw[ih (fun x hx=>by rw[XH];exact h x (XY _ hx)),mM (by simp_all)]
  grind
theorem q5v{C D:Nat->Int}{c:List Nat}(h:∀g ∈c,C g=D g):ZX C c=ZX D c:=by
 have H:∀(c:List Nat) (s:Int),(∀g ∈c,C g=D g)->c.foldl (fun s g=>s+C g) s=c.foldl (fun s g=>s+D g) s:=by
  intro c
  induction c with
  |nil=>grind
  |cons g c ih=>
   grind
 exact H c 0 h
theorem Iy{C:Nat->Int}{c:List Nat}{M:Int}(hM:0<=M)(h:∀g,0<=C g/\C g<=M):0<=ZX C c/\ZX C c<=c.length*M:=by
 have H:∀(c:List Nat) (s:Int),0<=s->0<=c.foldl (fun s g=>s+C g) s/\c.foldl (fun s g=>s+C g) s<=s+c.length*M:=by
  intro c
  induction c with
  |nil=>grind
  |cons g c ih=>
   intro s hs;have h1:=h g;rw[List.foldl_cons];have:=ih (s+C g) (by omega);rw[XI]
   grind
 have:=H c 0 (Int.le_refl _);unfold ZX;omega
theorem Wz{T:List Int}{M:Int}(hM:0<=M)(h:∀x ∈T,0<=x/\x<=M):0<=T.foldl mx 0/\T.foldl mx 0<=M:=by
 have H:∀(l:List Int) (b:Int),(∀x ∈l,0<=x/\x<=M)->0<=b/\b<=M->0<=l.foldl mx b/\l.foldl mx b<=M:=by
  intro l
  induction l with
  |nil=>grind
  |cons x l ih=>
   intro b hl hb;refine ih _ (by grind) ?_;have:=hl x (XV ..);unfold mx;omega
 grind
theorem dw.step{i:Nat}{O:List Int}(h:dw EL n C P i O)(hR:Qk EL n P)(hE:Jl EL n)(hn:n<=12)(h0:∀g,0<=C g/\C g<=32088)(hi:i<P.length){v:Int}(hv:v=ZX C P[i]+(ZN EL P[i] (oN O) P[i]).foldl mx 0):dw EL n C P (i+1) (Vz O P[i] v):=by
 have hlt:∀f ∈P[i],f<O.length:=fun f hf=>by rw[h.len];exact hR.lt f (eH hi hf)
 have hc:P[i].length<=12:=by
  have h1:P[i].length<=n:=wF ((hR.srt _ (Xd hi)).2.imp (by omega)) (fun f hf=>hR.lt f (eH hi hf));omega
 have s1:=Iy (c:=P[i]) (M:=32088) (by omega) h0;have s2:=Wz (M:=400000*(i:Int)) (by omega) (SX (EL:=EL) (p:=P[i]) (c:=P[i]) (fun t=>⟨h.low t,h.top t⟩));have s3:(P[i].length:Int)*32088<=12*32088:=(by omega)
 refine⟨by rw[RI];exact h.len,fun t=> ?_,fun t=> ?_,fun j hj hji t ht=> ?_⟩
 ·rw[Kv hlt];split
  ·omega
  ·exact h.low t
 ·rw[Kv hlt];have:=h.top t;omega
 ·rw[Kv hlt];by_cases q:t ∈P[i]
  ·rw[Xb q,hv,<-hR.takes hE hi];exact(hR.bound hE hi q (fun k hk u hu=>h.old k (by omega) hk u hu)).symm
  ·rw[Xa q];refine h.old j hj ?_ t ht
   grind
theorem dw.done{i:Nat}{O:List Int}(h:dw EL n C P i O)(hR:Qk EL n P)(hi:P.length<=i):O=(List.range n).map (QQ EL n C):=by
 refine Wh (by rw[h.len,Xm,List.length_range]) fun k h1 h2=> ?_;have hk:k<n:=by grind
 obtain⟨c,hc,hkc⟩:=List.mem_flatten.mp (hR.all k hk);obtain⟨j,hj,rfl⟩:=List.mem_iff_getElem.mp hc;have:=h.old j hj (by omega) k hkc
 grind [VG]
end
theorem q6m(m:za)(f pc:Int)(st:List (Int×Int))(A:Option Addr)(cap:Nat)(h:zh)(w:World)(H:zr w w.heap.size h m)(hf:f<0):
  Calls Tryz.prog 54 #[zv h m,.int .i64 f,.int .i64 pc,.slice A st.length cap] w (ik (zI m f pc st) w):=by
 have e0:zI m f pc st=qS 1:=by unfold zI;rw[Xa (by omega)]
 rw[e0];clear e0;have hle:=H.methods.le;have hcap:=H.methods.cap;have HW:=zH ((zk (w:=w) (o:=(ze h m))));have zO:=zH (H.now HW.out);have HBX:=zH (qd w h m);have HZ:Hid (w.heap.size<(w.alloc (ze h m)).heap.size):=zH (by simp);clear H;go_enter Tryz.func54,Tryz.ntmps54;go_upto_region 1 with fail
 generalize w.alloc (ze h m)=w1 at*
 obtain⟨q0,q1,q2,q3,q4,q5,q6⟩:=HBX.out;go_wp2_with fail
 go_ret3
 exact gK 1 HW.out
theorem q6l(m:za)(f pc:Int)(st:List (Int×Int))(A:Option Addr)(cap:Nat)(h:zh)(w:World)(H:zr w w.heap.size h m)(hf0:0<=f)(hf:(m.methods.length:Int)<=f):
  Calls Tryz.prog 54 #[zv h m,.int .i64 f,.int .i64 pc,.slice A st.length cap] w (ik (zI m f pc st) w):=by
 have e0:zI m f pc st=qS 1:=by unfold zI;rw[Xa (by omega)]
 rw[e0];clear e0;have hle:=H.methods.le;have hcap:=H.methods.cap;have HW:=zH ((zk (w:=w) (o:=(ze h m))));have zO:=zH (H.now HW.out);have HBX:=zH (qd w h m);have HZ:Hid (w.heap.size<(w.alloc (ze h m)).heap.size):=zH (by simp);clear H;go_enter Tryz.func54,Tryz.ntmps54;go_upto_region 1 with fail
 generalize w.alloc (ze h m)=w1 at*
 obtain⟨q0,q1,q2,q3,q4,q5,q6⟩:=HBX.out;have g0:¬f<0:=by omega
 go_wp2_with fail
 go_ret3
 exact gK 1 HW.out
theorem q6k(m:za)(f pc:Int)(st:List (Int×Int))(A:Option Addr)(cap:Nat)(h:zh)(w:World)(H:zr w w.heap.size h m)(hf0:0<=f)(hf:f<(m.methods.length:Int))(hp:pc<0):
  Calls Tryz.prog 54 #[zv h m,.int .i64 f,.int .i64 pc,.slice A st.length cap] w (ik (zI m f pc st) w):=by
 have e0:zI m f pc st=qS 1:=by unfold zI;rw[Xa (by omega)]
 rw[e0];clear e0;have hle:=H.methods.le;have hcap:=H.methods.cap;have HW:=zH ((zk (w:=w) (o:=(ze h m))));have zO:=zH (H.now HW.out);have HBX:=zH (qd w h m);have HZ:Hid (w.heap.size<(w.alloc (ze h m)).heap.size):=zH (by simp);clear H;go_enter Tryz.func54,Tryz.ntmps54;go_upto_region 1 with fail
 generalize w.alloc (ze h m)=w1 at*
 obtain⟨q0,q1,q2,q3,q4,q5,q6⟩:=HBX.out;have g0:¬f<0:=by omega
 have g1:¬(m.methods.length:Int)<=f:=by omega
 go_wp2_with fail
 go_ret3
 exact gK 1 HW.out
theorem q6j(m:za)(x:zl)(f:Nat)(pc:Int)(st:List (Int×Int))(A:Option Addr)(cap:Nat)(h:zh)(w:World)(H:zr w w.heap.size h m)(hg:m.methods[f]? =some x)(hp0:0<=pc)(hp:(x.code.length:Int)<=pc):
  Calls Tryz.prog 54 #[zv h m,.int .i64 f,.int .i64 pc,.slice A st.length cap] w (ik (zI m f pc st) w):=by
 have hk:f<m.methods.length:=(Xv.mp hg).1;have hx:m.methods[f]=x:=(Xv.mp hg).2;have e0:zI m f pc st=qS 1:=by unfold zI zA;rw[Xo,hg,Wo,Xa (by omega)]
 rw[e0];clear e0;have hle:=H.methods.le;have hcap:=H.methods.cap;have HW:=zH ((zk (w:=w) (o:=(ze h m))));have zO:=zH (H.now HW.out);have HBX:=zH (qd w h m);have HZ:Hid (w.heap.size<(w.alloc (ze h m)).heap.size):=zH (by simp);clear H hg;go_enter Tryz.func54,Tryz.ntmps54;go_upto_region 1 with fail
 generalize w.alloc (ze h m)=w1 at*
 obtain⟨q0,q1,q2,q3,q4,q5,q6⟩:=HBX.out;obtain⟨ad,hx',eA,hab,hin,hc⟩:=Zx zO.out hk;rw[hx]at hin hc;have GN:=hin.code.cap;have FU:=hin.code.le;have c4:=hc.c4;rw[eA]at q3;clear hin hc eA;have g0:¬(f:Int)<0:=by omega
 have g1:¬(m.methods.length:Int)<=f:=by omega
 have g2:¬pc<0:=by omega
 go_wp2_with fail
 go_ret3
 exact gK 1 HW.out
structure zg where
 seen:Bool
 A:Option Addr
 c:Nat
 stack:List (Int×Int)
def zg.shp(x:zg):zq:=⟨x.seen,x.stack⟩
def VJ(x:zg):List Value:=[.bool x.seen,.slice x.A x.stack.length x.c]
def Vd(X:List zg):List Value:=X.flatMap VJ
structure qJ(w:World)(g:Nat)(X:List zg):Prop where
 blk:zm w g (Vd X) 81
 row:∀x ∈X,zd zf 2 w w.heap.size x.A x.c x.stack
theorem qg1(X:List zg):(Vd X).length=X.length*2:=Du (f:=VJ) (k:=2) (fun _=>rfl) X
theorem qJ.seen_at{w:World}{g i:Nat}{X:List zg}(h:qJ w g X)(hi:i<X.length):w.cell? ⟨g,i*2,none⟩=some (.bool X[i].seen):=
 h.blk.cells _ _ (YP (f:=VJ) (k:=2) (fun _=>rfl) X i 0 X[i] (Xc hi) (by decide))
theorem qJ.stack_at{w:World}{g i:Nat}{X:List zg}(h:qJ w g X)(hi:i<X.length):w.cell? ⟨g,i*2+1,none⟩=some (.slice X[i].A X[i].stack.length X[i].c):=
 h.blk.cells _ _ (YP (f:=VJ) (k:=2) (fun _=>rfl) X i 1 X[i] (Xc hi) (by decide))
theorem qJ.noint{w:World}{g:Nat}{X:List zg}(h:qJ w g X){p:Addr}{k:IntKind}{v:Int}(hp:p.block=g):¬w.cell? p=some (.int k v):=fun e=>by
 have hb:=h.blk;unfold zm at hb;unfold World.cell? at e;rw[hp,hb]at e;simp at e;obtain⟨_,e⟩:=e;have hm:(Value.int k v) ∈Vd X:=Xr e;obtain⟨x,_,hx⟩:=List.mem_flatMap.mp hm;simp[VJ]at hx
theorem qJ.ty_apart{w:World}{g B c i:Nat}{X:List zg}{A:Option Addr}{L:List (Int×Int)}(h:qJ w g X)(hs:zd zf 2 w B A c L)(hi:i<L.length):∀ad,A=some ad->ad.block≠g:=fun ad e q=>by
 obtain⟨ad',e',_,h0,_⟩:=hs.row.at_ hi;rw[e]at e';injection e' with e';subst e';exact h.noint (p:=ad.add (i*2)) (by rw[zC];exact q) h0
theorem qJ.int_apart{w:World}{g B c i:Nat}{X:List zg}{A:Option Addr}{L:List Int}(h:qJ w g X)(hs:zd zu 1 w B A c L)(hi:i<L.length):∀ad,A=some ad->ad.block≠g:=fun ad e q=>by
 obtain⟨ad',e',_,h0⟩:=hs.row.at_ hi;rw[e]at e';injection e' with e';subst e';exact h.noint (p:=ad.add (i*1)) (by rw[zC];exact q) h0
theorem pM{w w':World}{g B C c:Nat}{A:Option Addr}{L:List (Int×Int)}(hs:zd zf 2 w B A c L)(hC:B<=C)(hk:∀q:Addr,q.block≠g->w'.cell? q=w.cell? q)(ha:∀i,i<L.length->∀ad,A=some ad->ad.block≠g):zd zf 2 w' C A c L:=
 ⟨hs.le,hs.cap,fun i t hi=>by
  obtain⟨ad,e,hb,h0,h1⟩:=hs.row i t hi;have hil:i<L.length:=by
   rcases Xl i L.length with q|q
   ·exact q
   ·rw[XE q]at hi;cases hi
  have hn:=ha i hil ad e;refine⟨ad,e,Xp hb hC,(hk _ (by rw[zC];exact hn)).trans h0,(hk _ (by show(ad.add _).block≠g;rw[zC];exact hn)).trans h1⟩⟩
theorem TY{w w':World}{g B C c:Nat}{A:Option Addr}{L:List Int}(hs:zd zu 1 w B A c L)(hC:B<=C)(hk:∀q:Addr,q.block≠g->w'.cell? q=w.cell? q)(ha:∀i,i<L.length->∀ad,A=some ad->ad.block≠g):zd zu 1 w' C A c L:=
 ⟨hs.le,hs.cap,fun i t hi=>by
  obtain⟨ad,e,hb,h0⟩:=hs.row i t hi;have hil:i<L.length:=by
   rcases Xl i L.length with q|q
   ·exact q
   ·rw[XE q]at hi;cases hi
  have hn:=ha i hil ad e;exact⟨ad,e,Xp hb hC,(hk _ (by rw[zC];exact hn)).trans h0⟩⟩
theorem qJ.keep{w w':World}{g:Nat}{X:List zg}(h:qJ w g X)(hb:Below w.heap.size w w'):qJ w' g X:=
 ⟨h.blk.keep hb h.blk.lt,fun x hx=>((h.row x hx).below_to zf.keeps hb (zn _)).keep' zf.keeps hb.size (fun _ _=>rfl)⟩
abbrev vh(w:World)(g i:Nat)(x:zg):World:=(w.setCell ⟨g,i*2,none⟩ (.bool x.seen)).setCell ⟨g,i*2+1,none⟩ (.slice x.A x.stack.length x.c)
theorem y9(w:World)(g i:Nat)(x:zg):∀q:Addr,q.block≠g->(vh w g i x).cell? q=w.cell? q:=fun q hq=>by
 unfold vh;rw[World.cell?_setCell_far _ _ _ _ (fun e=>hq e.symm),World.cell?_setCell_far _ _ _ _ (fun e=>hq e.symm)]
theorem UN:∀(X:List zg) (i:Nat) (x:zg),(Vd (X.set i x))=((Vd X).set (i*2) (.bool x.seen)).set (i*2+1) (.slice x.A x.stack.length x.c)\/X.length<=i
 | [],i,x=> .inr (Xn _)
 |y::X,0,x=> .inl rfl
 |y::X,i+1,x=>by
  rcases UN X i x with h|h
  ·refine .inl ?_;show VJ y++Vd (X.set i x)=((VJ y++Vd X).set _ _).set _ _;rw[h,show(i+1)*2=i*2+2 by omega];rfl
  ·exact .inr (by simp;omega)
theorem qJ.put{w:World}{g i:Nat}{X:List zg}{x:zg}(h:qJ w g X)(hi:i<X.length)(hx:zd zf 2 w w.heap.size x.A x.c x.stack):qJ (vh w g i x) g (X.set i x):=by
 have hz:(vh w g i x).heap.size=w.heap.size:=by simp[vh]
 have hap:∀{A:Option Addr} {c:Nat} {L:List (Int×Int)},zd zf 2 w w.heap.size A c L->zd zf 2 (vh w g i x) (vh w g i x).heap.size A c L:=fun {A c L} hs=>
  pM hs (by rw[hz];exact zn _) (y9 w g i x) (fun j hj=>h.ty_apart hs hj)
 refine⟨?_,fun y hy=> ?_⟩
 ·rcases UN X i x with e|e
  ·rw[e];exact(h.blk.set _ _).set _ _
  ·omega
 ·rcases X8 hy with q|q
  ·exact hap (h.row y q)
  ·rw[q];exact hap hx
def Dry(w:World)(v:Value):Prop:=∀g,v.ownBlock=some g->∀q:Addr,q.block=g->∀k x,¬w.cell? q=some (.int k x)
theorem Fg{w:World}{g:Nat}{arr:Array Value}{e:TypeId}{fz:Nat×Nat}(h:w.heap[g]? =some (.cells arr e fz))(hn:∀u ∈arr.toList,∀k x,u≠ .int k x):∀q:Addr,q.block=g->∀k x,¬w.cell? q=some (.int k x):=by
 intro q hq k x hc;unfold World.cell? at hc;rw[hq,h]at hc;dsimp only at hc;split at hc
 ·cases hc
 ·exact hn _ (Array.mem_toList_iff.mpr (Array.mem_of_getElem? hc)) _ _ rfl
theorem dry_in{w:World}{g:Nat}{arr:Array Value}{e:TypeId}{fz:Nat×Nat}(h:w.heap[g]? =some (.cells arr e fz))(hd:∀q:Addr,q.block=g->∀k x,¬w.cell? q=some (.int k x)):∀u ∈arr.toList,∀k x,u≠ .int k x:=by
 intro u hu k x e;subst e;obtain⟨j,hj⟩:=List.mem_iff_getElem?.mp hu;refine hd ⟨g,j,none⟩ rfl k x ?_;unfold World.cell?;dsimp only;rw[h];dsimp only;rw[<-Array.getElem?_toList,hj];rfl
theorem Um(n:Nat):∀u ∈(Builtin.zeroCells (Value.slice none 0 0).cells n).toList,∀k x,u≠ .int k x:=by
 intro u hu k x e;subst e;unfold Builtin.zeroCells at hu;simp[Value.cells]at hu
 grind
theorem Dry.below{w w':World}{v:Value}(h:Dry w v)(hv:∀g,v.ownBlock=some g->g<w.heap.size)(hb:Below w.heap.size w w'):Dry w' v:=fun g hg q hq k x=>by
 rw[hb.cell (by grind)];exact h g hg q hq k x
theorem qe0(w:World)(T:TypeId):Dry (w.alloc (.cells #[] T)) (.slice (some ⟨w.heap.size,0,none⟩) 0 0):=fun g hg=>by
 simp[Value.ownBlock]at hg
 grind [Fg,Xz]
theorem q36{P:Program}(w:World)(base:Nat)(t ty e:TypeId)(i:TypeInfo)(bytes:Nat)(ht:P.underlying t=some (.slice e))(hi:P.info? e=some i)(hz:i.zero=some (.slice none 0 0))
  (hsize:i.size=1) (hby:i.bytes=bytes) (v:Value) (n:Nat) (xs:List Value) (hown:w.ownsRow base e 1 v n xs) (hd:Dry w v)
  (a:Addr) (c:Nat) (A':Option Addr) (n' c':Nat) (hnews:w.cell? (a.add 0)=some (.slice A' n' c'))
  (h63:n+1<=maxLen) (hbytes:(n+1)*bytes<=140737488355328) (hbase:base<=w.heap.size):
  ∃g cap w',(Builtin.append_ #[t,t] ty #[v,.slice (some a) 1 c]).run P w= .ok (.slice (some ⟨g,0,none⟩) (n+1) cap) w'/\w'.ownsRow base e 1 (.slice (some ⟨g,0,none⟩) (n+1) cap) (n+1) (xs++[.slice A' n' c'])/\
   w.grownBy w' v.ownBlock/\(v.ownBlock=some g\/g=w.heap.size)/\g<w'.heap.size/\Dry w' (.slice (some ⟨g,0,none⟩) (n+1) cap):=by
 have hnw:∀j u,[Value.slice A' n' c'][j]? =some u->w.cell? (a.add j)=some u:=(by grind)
 have h1:∀u ∈ [Value.slice A' n' c'],u.oneCell'=true:=fun u hu=>by simp at hu;subst hu;rfl
 have hsmall:n+1<=9223372036854775807:=by simp only[maxLen]at h63;omega
 obtain⟨v',w',hr,h2,h3,h4,h5⟩:=run_append_own_at (P:=P) w base t ty e i (.slice none 0 0) 1 bytes ht hi hz hsize hby rfl (by decide) v n xs hown a 1 c [.slice A' n' c'] rfl hnw h1 h63 hbytes hbase;have hnot:∀u:Value,u= .slice A' n' c'->∀k x,u≠ .int k x:=(by grind)
 obtain⟨g,cap,rfl,hlt⟩:∃g cap,v'= .slice (some ⟨g,0,none⟩) (n+1) cap/\g<w'.heap.size:=by
  rcases h2.2 with⟨_,q⟩|⟨g,cap,cur,e1,_,hg,_⟩
  all_goals grind
 refine⟨g,cap,w',hr,h2,h3,?_,hlt,fun g' hg'=> ?_⟩
 ·rcases h5 with h5|h5
  ·exact .inl (h5.symm.trans rfl)
  ·simp[Value.ownBlock]at h5;omega
 ·simp[Value.ownBlock]at hg';subst hg';rcases hown.2 with⟨rfl,rfl⟩|⟨gv,OE,cur,rfl,hbg,hg,hnc,hcm,hcs,htake⟩
  ·have hq:=run_append_nil (P:=P) w t ty e i (.slice none 0 0) ht hi hz a 1 c [.slice A' n' c'] (by rw[hsize];rfl) hnw (by decide) (by decide) (by rw[hby];omega);rw[hr]at hq;injection hq with q1 q2;injection q1 with q1;injection q1 with q1;simp at q1;subst q1 q2;refine Fg (Xz w.drew _) fun u hu=> ?_
   grind [Array.toList_append,Um]
  ·have hcd:=dry_in hg (hd gv rfl);by_cases hroom:n+1<=OE
   ·have hq:=run_append_room (P:=P) w t ty e i ht hi gv n OE cur hg a 1 c [.slice A' n' c'] (by rw[hsize];rfl) hnw h1 hroom (by rw[hsize,hcs];simp;omega);rw[hr]at hq;injection hq with q1 q2;injection q1 with q1;injection q1 with q1;simp at q1;subst q1 q2;refine Fg (setRow_heap w _ cur _ e _ hg) fun u hu=> ?_
    grind
   ·have holds:∀j u,xs[j]? =some u->w.cell? ((⟨gv,0,none⟩:Addr).add j)=some u:=hown.cells (g:=gv) rfl;have hq:=run_append_grow (P:=P) w t ty e i (.slice none 0 0) ht hi hz ⟨gv,0,none⟩ n OE xs (by rw[hsize];exact hown.1) holds a 1 c [.slice A' n' c'] (by rw[hsize];rfl) hnw (by omega) (by omega) (growslice_fits (by omega) (by rw[hby];exact hbytes));rw[hr]at hq;injection hq with q1 q2;injection q1 with q1;injection q1 with q1;simp at q1;subst q1 q2;refine Fg (Xz w.drew _) fun u hu=> ?_
    grind [Array.toList_append,Wl,Um]
theorem SE{P:Program}{w:World}{ops:Array Oper}{rest:List Oper}{o:Oper}{a:Act}{Q:Exit->Act->World->Prop}(hgd:o.guard=none)(s x:Operand)(t:TypeId)
  (ho:o.op= .call {callee:= .builtin .append,args:= #[s,x],argTypes:= #[t,t]})
  (base:Nat) (e:TypeId) (i:TypeInfo) (bytes:Nat) (ht:P.underlying t=some (.slice e)) (hi:P.info? e=some i) (hz:i.zero=some (.slice none 0 0))
  (hsize:i.size=1) (hby:i.bytes=bytes) (v:Value) (n:Nat) (xs:List Value) (hs:a.eval s=v) (hown:w.ownsRow base e 1 v n xs) (hd:Dry w v)
  (ad:Addr) (c:Nat) (A':Option Addr) (n' c':Nat) (hx:a.eval x= .slice (some ad) 1 c) (hnews:w.cell? (ad.add 0)=some (.slice A' n' c'))
  (h63:n+1<=maxLen) (hbytes:(n+1)*bytes<=140737488355328) (hbase:base<=w.heap.size) (H:Nat) (hH:w.heap.size=H)
  (h:∀g cap w',w'.ownsRow base e 1 (.slice (some ⟨g,0,none⟩) (n+1) cap) (n+1) (xs++[.slice A' n' c'])->w.grownBy w' v.ownBlock->(v.ownBlock=some g\/g=H)->g<w'.heap.size->Dry w' (.slice (some ⟨g,0,none⟩) (n+1) cap)->wpList P ops Q rest (a.put o.dst (.slice (some ⟨g,0,none⟩) (n+1) cap)) w'):
  wpList P ops Q (o::rest) a w:=by
 refine wpList_plain hgd fun K hK=> ?_;obtain⟨g,cap,w',hr,h2,h3,h4,h5,h6⟩:=q36 (P:=P) w base t o.type e i bytes ht hi hz hsize hby v n xs hown hd ad c A' n' c' hnews h63 hbytes hbase;unfold Oper.wp execOp;simp only[ho,resolve,invoke,builtin,Sem.run_bind,Sem.run_pure,Result.andThen_ok,List.map_toArray,List.map_cons,List.map_nil,hs,hx,hr];exact hK _ _ (h g cap w' h2 h3 (hH ▸ h4) h5 h6)
structure YC(EL:List (List Int))(n:Nat)(C:Nat->Int)(r f:Nat)(O:List Int):Prop where
 len:O.length=n
 low:∀t,0<=oN O t
 top:∀t,oN O t<=4800000*r+400000*f
 old:∀t,t<n->aJ EL n t<=r->oN O t=QQ EL n C t
 new:∀t,t<n->t<f->aJ EL n t<=r+1->oN O t=QQ EL n C t
section
variable{EL:List (List Int)}{n:Nat}{C:Nat->Int}{r f:Nat}{O:List Int}
theorem YC.start:YC EL n C 0 0 (List.replicate n 0):=by
 have h:∀t,oN (List.replicate n 0) t=0:=fun t=>by
  unfold oN
  grind
 refine⟨(by grind),(by grind),(by grind),fun t ht hc=> ?_,(by omega)⟩
 grind [q0b]
theorem YC.step(h:YC EL n C r f O)(hE:Jl EL n)(hn:n<=12)(h0:∀g,0<=C g)(h1:∀g,C g<=32088)(hf:f<n):YC EL n C r (f+1) (O.set f (kq EL n C f n+kt EL n (oN O) f n)):=by
 have hl:f<O.length:=by rw[h.len];exact hf
 have a1:=KC (EL:=EL) (n:=n) (f:=f) (k:=n) h0;have a2:=TD (EL:=EL) (n:=n) (C:=C) (f:=f) (k:=n) (M:=32088) h1 (by omega);have a3:=KU (EL:=EL) (n:=n) (o:=oN O) (f:=f) (k:=n);have a4:=Ut (EL:=EL) (n:=n) (o:=oN O) (f:=f) (k:=n) (M:=4800000*(r:Int)+400000*(f:Int)) hE (by omega) (fun t _=>h.top t);refine⟨by rw[XH];exact h.len,fun t=> ?_,fun t=> ?_,fun t ht hc=> ?_,fun t ht htf hc=> ?_⟩
 ·rw[mM hl];split
  ·omega
  ·exact h.low t
 ·rw[mM hl];split
  ·omega
  ·have:=h.top t;omega
 ·rw[mM hl];split
  ·rename_i e;subst e;exact SA hE ht (by omega) h.old
  ·exact h.old t ht hc
 ·rw[mM hl];split
  ·rename_i e;subst e;exact SA hE ht hc h.old
  ·exact h.new t ht (by omega) hc
theorem YC.next(h:YC EL n C r f O)(hf:n<=f)(hf2:f<=12):YC EL n C (r+1) 0 O:=
 ⟨h.len,h.low,fun t=>by have:=h.top t;omega,fun t ht hc=>h.new t ht (by omega) hc,(by omega)⟩
theorem YC.done(h:YC EL n C r f O)(hr:n<=r):O=(List.range n).map (QQ EL n C):=by
 refine Wh (by rw[h.len,Xm,List.length_range]) fun i h1 h2=> ?_;have hi:i<n:=by grind
 have:=h.old i hi (by grind [q0x])
 grind [VG]
end
theorem Rc{EL:List (List Int)}{n g k:Nat}{o:Nat->Int}{b:Int}{L:List Int}(hk:k<L.length):jU EL n o g b (L.take (k+1))=ZA EL n o g (jU EL n o g b (L.take k)) L[k]:=by
 unfold jU;rw[Xx,Xc hk,Wg];rfl
def cB(w:World)(B:Nat)(x:zg):Prop:=∃gi rest,x.A=some ⟨gi,0,none⟩/\B<=gi/\zm w gi (zN x.stack++rest) 45
structure kW(w:World)(B g:Nat)(X:List zg):Prop where
 out:qJ w g X
 base:B<=g
 own:∀i (hi:i<X.length),X[i].stack≠ []->cB w B X[i]
 apart:∀i j (hi:i<X.length) (hj:j<X.length),i≠j->X[i].stack≠ []->X[j].stack≠ []->X[i].A≠X[j].A
def iG(B:Nat)(X:List zg):Prop:=∀x ∈X,x.stack≠ []->∀ad,x.A=some ad->B<=ad.block
theorem kW.news{w:World}{B g:Nat}{X:List zg}(h:kW w B g X):iG B X:=fun x hx hn ad e=>by
 obtain⟨i,hi,rfl⟩:=We hx;obtain⟨gi,_,e2,h2,_⟩:=h.own i hi hn
 grind
theorem iG.more{B C:Nat}{X:List zg}(h:iG C X)(hb:B<=C):iG B X:=fun x hx hn ad e=>Xe hb (h x hx hn ad e)
theorem zm.otherT{w:World}{g:Nat}{vs:List Value}{T:TypeId}(h:zm w g vs T){a:Addr}(ha:g≠a.block)(v:Value):zm (w.setCell a v) g vs T:=(XJ w a v g ha).trans h
theorem zm.type_eq{w:World}{g:Nat}{vs us:List Value}{T U:TypeId}(h:zm w g vs T)(h':zm w g us U):T=U:=by
 unfold zm at h h'
 grind
theorem IY{w:World}{g:Nat}{vs us:List Value}(h:zm w g vs 81)(h':zm w g us 45):False:=absurd (h.type_eq h') (by decide)
theorem cB.keep{w w':World}{B:Nat}{x:zg}(h:cB w B x)(hb:Below w.heap.size w w'):cB w' B x:=by
 obtain⟨gi,rest,h1,h2,h3⟩:=h;exact⟨gi,rest,h1,h2,h3.keep hb h3.lt⟩
theorem kW.keep{w w':World}{B g:Nat}{X:List zg}(h:kW w B g X)(hb:Below w.heap.size w w'):kW w' B g X:=
 ⟨h.out.keep hb,h.base,fun i hi hn=>(h.own i hi hn).keep hb,h.apart⟩
theorem cB.lt{w:World}{B:Nat}{x:zg}(h:cB w B x):∃gi,x.A=some ⟨gi,0,none⟩/\gi<w.heap.size:=by
 obtain⟨gi,rest,h1,h2,h3⟩:=h;exact⟨gi,h1,h3.lt⟩
theorem wK{α:Type}{X:List α}{i j:Nat}{x:α}(hi:i<X.length)(hj:j<(X.set i x).length):(X.set i x)[j]=if i=j then x else X[j]'(by grind):=by
 grind
theorem kW.put{w0 w:World}{B g i:Nat}{X:List zg}{x:zg}(h:kW w0 B g X)(hb:Below w0.heap.size w0 w)(hB:B<=w0.heap.size)(hi:i<X.length)(hx:zd zf 2 w w.heap.size x.A x.c x.stack)
  (hn:x.stack≠ []->cB w w0.heap.size x):kW (vh w g i x) B g (X.set i x):=by
 have hk:=h.keep hb;have hown:∀{y:zg} {C:Nat},cB w C y->cB (vh w g i x) C y:=fun {y C} q=>by
  obtain⟨gi,rest,h1,h2,h3⟩:=q;have hne:gi≠g:=fun e=>by subst e;exact IY hk.out.blk h3
  exact⟨gi,rest,h1,h2,(h3.otherT hne _).otherT hne _⟩
 have hB':∀{y:zg},cB (vh w g i x) w0.heap.size y->cB (vh w g i x) B y:=fun {y} ⟨gi,rest,h1,h2,h3⟩=>⟨gi,rest,h1,Xe hB h2,h3⟩
 have q2u:x.stack≠ []->∀j (hj:j<X.length),X[j].stack≠ []->x.A≠X[j].A:=fun q j hj q2 e=>by
  obtain⟨gi,rest,h1,h2,h3⟩:=hn q;obtain⟨gj,e2,h4⟩:=(h.own j hj q2).lt
  grind
 refine⟨hk.out.put hi hx,h.base,fun j hj q=> ?_,fun j k hj hk' hjk q1 q2=> ?_⟩
 ·rw[wK hi hj]at q⊢
  by_cases e:i=j
  ·grind
  ·rw[Xa e]at q⊢
   exact hown (hk.own j _ q)
 ·rw[wK hi hj]at q1⊢
  rw[wK hi hk']at q2⊢
  by_cases e:i=j
  ·grind
  ·rw[Xa e]at q1⊢
   by_cases e2:i=k
   ·grind
   ·rw[Xa e2]at q2⊢
    exact h.apart j k _ _ hjk q1 q2
theorem UH:∀(L:List (Int×Int)) (k:Nat) (t:Int×Int) (rest:List Value),k<L.length->((zN L++rest).set (k*2) (.int .i64 t.1)).set (k*2+1) (.int .i64 t.2)=zN (L.set k t)++rest
 | [],k,t,rest,h=>by simp at h
 |a::L,0,t,rest,h=>rfl
 |a::L,k+1,t,rest,h=>by
  have:=UH L k t rest (by grind);show((tyC a++zN L++rest).set _ _).set _ _=tyC a++zN (L.set k t)++rest;rw[XT,XT,<-this,show(k+1)*2=k*2+2 by omega];rfl
theorem qag{w:World}{gi c:Nat}{L:List (Int×Int)}{rest:List Value}(h:zm w gi (zN L++rest) 45)(hc:L.length<=c)(hm:c<=9223372036854775807):zd zf 2 w w.heap.size (some ⟨gi,0,none⟩) c L:=
 ⟨hc,hm,fun i t hi=>by
  have hlt:i<L.length:=by
   grind
  have hl:(zN L).length=L.length*2:=Yt L;have e0:=YP (f:=tyC) (k:=2) (fun _=>rfl) L i 0 t hi (by decide);have e1:=YP (f:=tyC) (k:=2) (fun _=>rfl) L i 1 t hi (by decide);have c0:=h.cells (i*2) _ (by rw[XO (by omega)];exact e0);have c1:=h.cells (i*2+1) _ (by rw[XO (by omega)];exact e1);have ea:(Addr.add ⟨gi,0,none⟩ (i*2))=⟨gi,i*2,none⟩:=by
   unfold Addr.add
   grind
  exact⟨_,rfl,h.lt,by grind,by grind⟩⟩
theorem st_at{w:World}{gi k:Nat}{L:List (Int×Int)}{rest:List Value}(h:zm w gi (zN L++rest) 45)(hk:k<L.length):w.cell? ⟨gi,k*2,none⟩=some (.int .i64 L[k].1)/\w.cell? ⟨gi,k*2+1,none⟩=some (.int .i64 L[k].2):=by
 have hl:(zN L).length=L.length*2:=Yt L;have hi:L[k]? =some L[k]:=(by grind)
 have e0:=YP (f:=tyC) (k:=2) (fun _=>rfl) L k 0 _ hi (by decide);have e1:=YP (f:=tyC) (k:=2) (fun _=>rfl) L k 1 _ hi (by decide);exact⟨h.cells (k*2) _ (by rw[XO (by omega)];exact e0),h.cells (k*2+1) _ (by rw[XO (by omega)];exact e1)⟩
theorem Ti:∀(X:List zg) (i:Nat) (x:zg) (hi:i<X.length),x.seen=X[i].seen->x.A=X[i].A->x.c=X[i].c->x.stack.length=X[i].stack.length->Vd (X.set i x)=Vd X
 | [],i,x,hi,_,_,_,_=>by simp at hi
 |y::X,0,x,hi,h1,h2,h3,h4=>by
  show VJ x++Vd X=VJ y++Vd X;have h1:x.seen=y.seen:=h1;have h2:x.A=y.A:=h2;have h3:x.c=y.c:=h3;have h4:x.stack.length=y.stack.length:=h4;unfold VJ
  grind
 |y::X,i+1,x,hi,h1,h2,h3,h4=>by
  show VJ y++Vd (X.set i x)=VJ y++Vd X;rw[Ti X i x (by grind) h1 h2 h3 h4]
abbrev rJ(w:World)(gi k:Nat)(t:Int×Int):World:=(w.setCell ⟨gi,k*2,none⟩ (.int .i64 t.1)).setCell ⟨gi,k*2+1,none⟩ (.int .i64 t.2)
theorem IV(w:World)(gi k:Nat)(t:Int×Int):∀b,b≠gi->(rJ w gi k t).heap[b]? =w.heap[b]? :=(by grind [XJ])
theorem yY(w:World)(gi k:Nat)(t:Int×Int):∀q:Addr,q.block≠gi->(rJ w gi k t).cell? q=w.cell? q:=(by grind [XU,IV])
theorem kW.turn{w:World}{B g i gi k:Nat}{X:List zg}{t:Int×Int}{y:zg}(h:kW w B g X)(hi:i<X.length)(hy:X[i]=y)(hk:k<y.stack.length)(eA:y.A=some ⟨gi,0,none⟩):
  kW (rJ w gi k t) B g (X.set i ⟨y.seen,y.A,y.c,y.stack.set k t⟩):=by
 subst hy;have hne:X[i].stack≠ []:=(by grind)
 obtain⟨gi',rest,e1,hB,hw⟩:=h.own i hi hne;rw[eA]at e1;obtain rfl:gi=gi':=by grind
 have hgg:g≠gi:=fun e=>by subst e;exact IY h.out.blk hw
 have hz:(rJ w gi k t).heap.size=w.heap.size:=by simp[rJ]
 have hw2:zm (rJ w gi k t) gi (zN (X[i].stack.set k t)++rest) 45:=by
  have:=(hw.set (k*2) (.int .i64 t.1)).set (k*2+1) (.int .i64 t.2)
  grind [UH]
 have hsl:=h.out.row _ (Xd hi);have q2u:∀j (hj:j<X.length),i≠j->X[j].stack≠ []->∀ad,X[j].A=some ad->ad.block≠gi:=fun j hj hij q ad ea eb=>by
  obtain⟨gj,rj,e2,_,_⟩:=h.own j hj q;rw[e2]at ea;injection ea with ea;subst ea;dsimp only at eb;subst eb;exact h.apart i j hi hj hij hne q (eA.trans e2.symm)
 refine⟨⟨?_,fun z hz'=> ?_⟩,h.base,fun j hj q=> ?_,fun j l hj hl hjl q1 q2=> ?_⟩
 ·rw[Ti X i ⟨X[i].seen,X[i].A,X[i].c,X[i].stack.set k t⟩ hi rfl rfl rfl (by simp)];exact(h.out.blk.otherT (a:=⟨gi,k*2,none⟩) hgg _).otherT (a:=⟨gi,k*2+1,none⟩) hgg _
 ·obtain⟨j,hj,rfl⟩:=We hz';rw[wK hi hj];by_cases e:i=j
  ·rw[Xb e];dsimp only;rw[eA];exact qag hw2 (by rw[XH];exact hsl.le) hsl.cap
  ·rw[Xa e];have hj':j<X.length:=by grind
   by_cases q:X[j].stack=[]
   ·have:=h.out.row _ (Xd hj');exact⟨this.le,this.cap,fun a b hb=>by rw[q]at hb;simp at hb⟩
   ·exact pM (g:=gi) (h.out.row _ (by grind)) (by omega) (yY w gi k t) (by grind)
 ·rw[wK hi hj]at q⊢
  by_cases e:i=j
  ·rw[Xb e];exact⟨gi,rest,eA,hB,hw2⟩
  ·rw[Xa e]at q⊢
   have hj':j<X.length:=by grind
   obtain⟨gj,rj,e2,h2,h3⟩:=h.own j hj' q;have:=q2u j hj' e q _ e2;exact⟨gj,rj,e2,h2,(IV w gi k t gj this).trans h3⟩
 ·have hs:∀a (ha:a<(X.set i ⟨X[i].seen,X[i].A,X[i].c,X[i].stack.set k t⟩).length),∃ha':a<X.length,(X.set i ⟨X[i].seen,X[i].A,X[i].c,X[i].stack.set k t⟩)[a].A=X[a].A/\((X.set i ⟨X[i].seen,X[i].A,X[i].c,X[i].stack.set k t⟩)[a].stack≠ []->X[a].stack≠ []):=(by grind)
  obtain⟨hj',ej,nj⟩:=hs j hj;obtain⟨hl',el,nl⟩:=hs l hl;rw[ej,el];exact h.apart j l hj' hl' hjl (nj q1) (nl q2)
theorem qiz{w w':World}{B c:Nat}{A:Option Addr}{L:List (Int×Int)}(h:zd zf 2 w B A c L)(hz:B<=w'.heap.size)(hb:∀ad,A=some ad->w'.heap[ad.block]? =w.heap[ad.block]?):zd zf 2 w' w'.heap.size A c L:=
 ⟨h.le,h.cap,fun i t hi=>by
  obtain⟨ad,e,h1,h2,h3⟩:=h.row i t hi;have:=hb ad e;refine⟨ad,e,(by omega),(by grind [XU,zC]),(by grind [XU,zC])⟩⟩
theorem qha{w w':World}{B c:Nat}{A:Option Addr}{L:List Int}(h:zd zu 1 w B A c L)(hz:B<=w'.heap.size)(hb:∀ad,A=some ad->w'.heap[ad.block]? =w.heap[ad.block]?):zd zu 1 w' w'.heap.size A c L:=
 ⟨h.le,h.cap,fun i t hi=>by
  obtain⟨ad,e,h1,h2⟩:=h.row i t hi;have:=hb ad e;exact⟨ad,e,(by omega),(XU (w:=w) (by rw[zC];exact this)).trans h2⟩⟩
def q0f(L:List Int)(w:World)(e:Ending)(w':World):Prop:=∃A c,e= .returned (.slice A L.length c)/\zd zu 1 w' w'.heap.size A c L/\(∀ad,A=some ad->w.heap.size<=ad.block)/\Below w.heap.size w w'
theorem q05{w:World}{g:Nat}{p q:Int}(hg:g<w.heap.size)(h0:w.cell? ⟨g,0,none⟩=some (.int .i64 p))(h1:w.cell? ⟨g,1,none⟩=some (.int .i64 q)):zd zu 1 w w.heap.size (some ⟨g,0,none⟩) 2 [p,q]:=
 ⟨zn _,by omega,fun i t hi=>by
  match i,hi with
  |0,hi=>simp at hi;subst hi;exact⟨_,rfl,hg,h0⟩
  |1,hi=>simp at hi;subst hi;exact⟨_,rfl,hg,(show w.cell? _=_ by simpa[Addr.add]using h1)⟩
  |i+2,hi=>simp at hi⟩
theorem qdu(op a b:Int)(pc:Nat)(hpc:pc<=1000000)(w:World):
  Calls Tryz.prog 140 #[qt op a b,.int .i64 pc] w (q0f (jt pc op a) w):=by
 have hw1:IntKind.i64.wrap ((pc:Int)+1)=(pc:Int)+1:=IntWalk.i64_in _ (by omega);by_cases h18:op=18
 ·subst h18;have e:jt (pc:Int) 18 a=[a]:=rfl;rw[e];clear e;go_enter Tryz.func140,Tryz.ntmps140;go_wp2_with fail
  go_ret;exact⟨_,_,rfl,EP (by simp) (by go_simp),(fun ad e=>by injection e with e;subst e;simp),(zk).alloc (by simp) _⟩
 ·by_cases h19:op=19
  ·subst h19;have e:jt (pc:Int) 19 a=[(pc:Int)+1,a]:=rfl;rw[e];clear e;go_enter Tryz.func140,Tryz.ntmps140;go_wp2_with fail
   go_ret;exact⟨_,_,rfl,q05 (by simp) (by go_simp) (by go_simp),(fun ad e=>by injection e with e;subst e;simp),(zk).alloc (by simp) _⟩
  ·by_cases JB:op=33
   ·subst JB;have e:jt (pc:Int) 33 a=[]:=rfl;rw[e];clear e;go_enter Tryz.func140,Tryz.ntmps140;go_wp2_with fail
    go_ret;exact⟨_,_,rfl,va,(fun ad e=>by cases e),zk⟩
   ·have e:jt (pc:Int) op a=[(pc:Int)+1]:=by unfold jt;rw[Xa h18,Xa h19,Xa JB]
    rw[e];clear e;go_enter Tryz.func140,Tryz.ntmps140;go_wp2_with fail
    go_ret;exact⟨_,_,rfl,EP (by simp) (by go_simp),(fun ad e=>by injection e with e;subst e;simp),(zk).alloc (by simp) _⟩
theorem qdt{op a b:Int}{pc:Nat}{w:World}{L:List Int}(HL:Hid (jt pc op a=L))(hpc:pc<=1000000):
  Calls Tryz.prog 140 #[qt op a b,.int .i64 pc] w (q0f L w):=by
 have H:=qdu op a b pc hpc w;rw[HL.out]at H;exact H
def VL(n:Int)(l:List Int):Bool:=l.any fun x=>decide (n<=x)
abbrev q0t(N:Nat):Value:= .func (.func 166) #[] #[.pointer (some ⟨N,0,none⟩)]
theorem q5c(x n:Int)(N:Nat)(w:World)(hc:w.cell? ⟨N,0,none⟩=some (.int .i64 n)):
  Calls Tryz.prog 166 #[.int .i64 x,.pointer (some ⟨N,0,none⟩)] w fun e w'=>e= .returned (.bool (decide (n<=x)))/\w'=w:=by
 go_enter Tryz.func166,Tryz.ntmps166;go_wp2_with fail
 go_ret;exact⟨rfl,rfl⟩
theorem Si{x n:Int}{N:Nat}{w:World}{r:Bool}(hc:w.cell? ⟨N,0,none⟩=some (.int .i64 n))(HR:Hid (decide (n<=x)=r)):
  Calls Tryz.prog 166 #[.int .i64 x,.pointer (some ⟨N,0,none⟩)] w fun e w'=>e= .returned (.bool r)/\w'=w:=by
 have H:=q5c x n N w hc;rw[HR.out]at H;exact H
theorem qih{f:Int->Bool}{l:List Int}{k:Nat}(hk:k<l.length)(h:(l.take k).any f=false)(hx:f l[k]=false):(l.take (k+1)).any f=false:=by
 rw[List.take_succ_eq_append_getElem hk,List.any_append,h];simp[hx]
theorem any_at{f:Int->Bool}{l:List Int}{k:Nat}(hk:k<l.length)(hx:f l[k]=true):l.any f=true:=Wn.mpr ⟨_,Xd hk,hx⟩
theorem q8q(l:List Int)(n:Int)(N:Nat)(A:Option Addr)(c:Nat)(w:World)(hc:w.cell? ⟨N,0,none⟩=some (.int .i64 n))(h:zd zu 1 w w.heap.size A c l):
  Calls Tryz.prog 189 #[.slice A l.length c,q0t N] w fun e w'=>∃z:Int,e= .returned (.int .i64 z)/\decide (z >= 0)=VL n l/\w'=w:=by
 have hle:=h.le;have hcap:=h.cap;have HS:=zH h;clear h;go_enter Tryz.func189,Tryz.ntmps189;go_wp2_with fail
 go_loopw [8] (fun i wr=>∃k:Nat,k<=l.length/\i= .int .i64 k/\Hid (VL n (l.take k)=false)/\wr=w) (fun i _=>l.length - (intOf i).toNat)
 case atStart=>exact⟨0,by omega,rfl,zH rfl,rfl⟩
 case round=>
  obtain⟨k,hk,rfl,HA,rfl⟩:=hrel;by_cases hlt:k<l.length
  ·obtain⟨ad,rfl,hab,hcz⟩:=HS.out.row.at_ hlt;have hcz:wr.cell? (ad.add k)=some (.int .i64 l[k]):=by have:=hcz;rw[Xq]at this;exact this
   obtain⟨r,hr⟩:=zj (decide (n<=l[k]));have HR:=zH hr;cases r
   ·have HA2:Hid (VL n (l.take (k+1))=false):=zH (qih hlt HA.out hr);clear hr;go_wp2_with(go_at_call 166;(with_reducible refine(Si hc HR).mono ?_);rintro e w1 ⟨rfl,rfl⟩)
    go_roundw;case rel=>exact⟨k+1,by omega,by go_num,HA2,Xs⟩
    case measure=>simp[intOf];omega
   ·have HA2:Hid (VL n l=true):=zH (any_at hlt hr);clear hr;go_wp2_with(go_at_call 166;(with_reducible refine(Si hc HR).mono ?_);rintro e w1 ⟨rfl,rfl⟩)
    go_ret;exact⟨_,rfl,by rw[HA2.out];simp,rfl⟩
  ·have HA2:Hid (VL n l=false):=zH (by have:=HA.out;rwa [XA (by omega)]at this);go_wp2_with fail
   go_ret;exact⟨_,rfl,by rw[HA2.out];rfl,rfl⟩
theorem q3m(l:List Int)(n:Int)(N:Nat)(A:Option Addr)(c:Nat)(w:World)(hc:w.cell? ⟨N,0,none⟩=some (.int .i64 n))(h:zd zu 1 w w.heap.size A c l):
  Calls Tryz.prog 165 #[.slice A l.length c,q0t N] w fun e w'=>e= .returned (.bool (VL n l))/\w'=w:=by
 have HS:=zH h;have HC:=zH hc;clear h hc;go_enter Tryz.func165,Tryz.ntmps165;go_wp2_with(go_at_call 189;(with_reducible refine(q8q l n N A c _ HC.out HS.out).mono ?_);rintro e w1 ⟨z,rfl,hz,rfl⟩;have HZ:=zH hz;clear hz)
 go_ret;exact⟨by rw[<-HZ.out];rfl,rfl⟩
theorem q5b(l:List Int)(n:Int)(A:Option Addr)(c:Nat)(w:World)(h:zd zu 1 w w.heap.size A c l):
  Calls Tryz.prog 141 #[.slice A l.length c,.int .i64 n] w fun e w'=>e= .returned (.bool (VL n l))/\Below w.heap.size w w':=by
 have hA:Below w.heap.size w (w.alloc (.cells #[.int .i64 n] 3)):=zk;have HA:=zH hA;have HS:=zH ((h.below_to zu.keeps hA (zn _)).keep' zu.keeps hA.size (fun _ _=>rfl));have HC:=zH (qr w [.int .i64 n] 3);clear h hA;go_enter Tryz.func141,Tryz.ntmps141;go_upto_region 1 with fail
 generalize w.alloc (.cells #[.int .i64 n] 3)=w1 at*
 have c0:=HC.out 0 _ rfl;go_wp2_with(go_at_call 165;(with_reducible refine(q3m l n w.heap.size A c w1 c0 HS.out).mono ?_);rintro e w2 ⟨rfl,rfl⟩)
 go_ret;exact⟨rfl,HA.out⟩
theorem Sg{l:List Int}{n:Int}{A:Option Addr}{c:Nat}{w:World}{r:Bool}(h:zd zu 1 w w.heap.size A c l)(HR:Hid (VL n l=r)):
  Calls Tryz.prog 141 #[.slice A l.length c,.int .i64 n] w fun e w'=>e= .returned (.bool r)/\Below w.heap.size w w':=by
 have H:=q5b l n A c w h;rw[HR.out]at H;exact H
theorem oN_ext{L M:List Int}(hl:L.length=M.length)(h:∀v,v<L.length->oN L v=oN M v):L=M:=by
 grind [Wh,VG]
theorem Ez(n:Nat)(a b most:Int):(vY n a b most).1.length=n:=by simp[vY]
theorem qj7{n v:Nat}{a b most:Int}(h:v<n):oN (vY n a b most).1 v=(if(v:Int)=b then 1 else 0) - (if(v:Int)=a then 1 else 0):=by
 rw[VG (by rw[Ez];exact h)];simp[vY]
theorem qa0(n:Nat)(a b most:Int):ZE (ZE (List.replicate n 0) b 1) a (-1)=(vY n a b most).1:=by
 have hl:(ZE (ZE (List.replicate n (0:Int)) b 1) a (-1)).length=n:=by rw[EJ,EJ,List.length_replicate]
 refine oN_ext (by rw[hl,Ez]) fun v hv=> ?_;rw[hl]at hv;rw[qj7 hv,q0e (by rw[EJ,List.length_replicate];exact hv),q0e (by grind)];have:oN (List.replicate n (0:Int)) v=0:=by unfold oN;grind
 omega
theorem qb9{L:List Int}{k:Int}(h:∀x ∈L,-k<=x/\x<=k)(hk:0<=k){i b:Int}(hb: -1<=b/\b<=1):∀x ∈ZE L i b,-(k+1)<=x/\x<=k+1:=fun x hx=>by
 unfold ZE at hx
 grind [X8,Xd,VG]
set_option maxHeartbeats 3200000 in
theorem q7g(n:Nat)(a b most:Int)(w:World)(hn:n<=1000):
  Calls Tryz.prog 107 #[.int .i64 n,.int .i64 b,.int .i64 a,.int .i64 most] w fun e w'=>∃g,e= .returned (.agg #[.slice (some ⟨g,0,none⟩) n n,.int .i64 most])/\w.heap.size<=g/\qk w' g (vY n a b most).1/\Below w.heap.size w w':=by
 obtain⟨i1,hi1,hy0,hy1,hy2⟩:=jJ ZL;have HR:=zH (qa0 n a b most);have Vo:=zH hn;go_enter Tryz.func107,Tryz.ntmps107;go_upto_region 1 with fail
 have HW1:=zH (zk (w:=w) (o:=(.cells #[.slice none 0 0,.int .i64 0] 113)));have BS:=zH (zm.new w [.slice none 0 0,.int .i64 0] 113);have HZ1:Hid (w.heap.size<(w.alloc (.cells #[.slice none 0 0,.int .i64 0] 113)).heap.size):=zH (by simp);generalize w.alloc (.cells #[.slice none 0 0,.int .i64 0] 113)=w1 at*
 go_upto_region 2 with(at_make;refine wpList_make_full _ rfl _ _ 27 rfl w1.heap.size 3 i1 (.int .i64 0) 1 Tryz.underlying27 hi1 hy0 hy1 .i64 .i64 _ _ n rfl rfl rfl rfl (by grind) (by unfold maxLen;omega) (zn _) ?_;intro w3 hown hgrow;have qa:=zH hown;have HB3:=zH ((zb w1.heap.size w1).grown hgrow (zn _) (by grind));clear hown hgrow)
 have sN:qk w3 w1.heap.size (List.replicate n 0):=by
  have h1:=o5 qa.out;rw[mi (v:= .int .i64 0) rfl]at h1;unfold qk;simp_all
 obtain⟨g,hg⟩:=zj (w1.heap.size);rw[hg]at sN;have hgl:=zm.lt sN;have hwg:w.heap.size<g:=by have:=HZ1.out;omega
 have hB4:Below g w1 (w3.alloc (.cells #[.slice (some ⟨g,0,none⟩) n n,.int .i64 most] 113)):=by
  have:=HB3.out;rw[hg]at this;exact this.alloc (by omega) _
 have oG:Hid (qk (w3.alloc (.cells #[.slice (some ⟨g,0,none⟩) n n,.int .i64 most] 113)) g (List.replicate n 0)):=zH (sN.keep (zk));have Vr:=zH (zm.new w3 [.slice (some ⟨g,0,none⟩) n n,.int .i64 most] 113);simp only[hg];have Vr:Hid (zm (w3.alloc (.cells #[.slice (some ⟨g,0,none⟩) n n,.int .i64 most] 113)) w3.heap.size [.slice (some ⟨g,0,none⟩) n n,.int .i64 most] 113):=Vr;obtain⟨q,hq⟩:=zj (w3.heap.size);rw[hq]at Vr hgl;simp only[hq];generalize w3.alloc (.cells #[.slice (some ⟨g,0,none⟩) n n,.int .i64 most] 113)=w4 at*
 have jw:=zH hB4;have qN:Hid ((List.replicate n (0:Int)).length=n):=(by grind)
 have hs0:∀x ∈List.replicate n (0:Int),-0<=x/\x<=0:=(by grind)
 have hs1:=qb9 hs0 (Int.le_refl 0) (i:=b) (b:=1) (by omega);have aY:Hid (∀x ∈List.replicate n (0:Int),-1000<=x/\x<=1000):=(by simp_all)
 have qZ:Hid (∀x ∈ZE (List.replicate n (0:Int)) b 1,-1000<=x/\x<=1000):=(by grind [zH])
 have kC:Hid ((ZE (List.replicate n (0:Int)) b 1).length=n):=(by grind [zH,EJ])
 obtain⟨L1,hL1⟩:∃L,ZE (List.replicate n (0:Int)) b 1=L:=⟨_,rfl⟩
 rw[hL1]at qZ kC HR;have HA1:=zH hL1;generalize List.replicate n (0:Int)=L0 at*
 clear hs0 hs1 sN hB4 qa HB3 hL1;have q0:=Vr.out.cells 0 _ rfl;go_upto_region 3 with(go_at_call 150;(with_reducible refine(q01 qN oG Vo aY (by grind) HA1).mono ?_);rintro e w5 ⟨rfl,hn5,hg5⟩;have xM:=zH hn5;have YG:Hid (zm w5 q [.slice (some ⟨g,0,none⟩) n n,.int .i64 most] 113):=zH (Rf Vr.out hg5 (by omega));have kh:=zH (jw.out.grown hg5 (Xg (zm.lt oG.out)) (by grind));clear hn5 hg5)
 clear q0;have q0:=YG.out.cells 0 _ rfl;go_upto_region 4 with(go_at_call 150;(with_reducible refine(q01 kC xM Vo qZ (by grind) HR).mono ?_);rintro e w6 ⟨rfl,hn6,NM⟩;have xy:=zH hn6;have Yk:Hid (zm w6 q [.slice (some ⟨g,0,none⟩) n n,.int .i64 most] 113):=zH (Rf YG.out NM (by omega));have Zk:=zH (kh.out.grown NM (Xg (zm.lt xM.out)) (by grind));clear hn6 NM)
 clear q0;have q0:=Yk.out.cells 0 _ rfl;have q1:=Yk.out.cells 1 _ rfl;have BG:Hid (zm w6 w.heap.size [.slice none 0 0,.int .i64 0] 113):=zH (BS.out.keep Zk.out (by omega));have r0:=BG.out.cells 0 _ rfl;have r1:=BG.out.cells 1 _ rfl;have f0:=BG.out.free 0;have f1:=BG.out.free 1;go_wp2_with fail
 have hW7:zm ((w6.setCell ⟨w.heap.size,0,none⟩ (.slice (some ⟨g,0,none⟩) n n)).setCell ⟨w.heap.size,1,none⟩ (.int .i64 most)) w.heap.size [.slice (some ⟨g,0,none⟩) n n,.int .i64 most] 113:=(BG.out.set 0 _).set 1 _;have p0:=hW7.cells 0 _ rfl;have p1:=hW7.cells 1 _ rfl;refine Xk (v:= .agg #[.slice (some ⟨g,0,none⟩) n n,.int .i64 most]) (by simp[results,Tryz.results107,go_sem,p0,p1]) rfl ⟨g,rfl,by omega,?_,?_⟩
 ·exact((XJ _ _ _ g (by show g≠w.heap.size;omega)).trans (XJ _ _ _ g (by show g≠w.heap.size;omega))).trans xy.out
 ·exact((HW1.out.trans (Zk.out.mono (by omega))).setCell (p:=⟨w.heap.size,0,none⟩) (zn _) _).setCell (p:=⟨w.heap.size,1,none⟩) (zn _) _
theorem Tz{n:Nat}{a b most:Int}{L:List Int}{w:World}(hn:Hid (n<=1000))(hr:Hid (vY n a b most=(L,most))):
  Calls Tryz.prog 107 #[.int .i64 n,.int .i64 b,.int .i64 a,.int .i64 most] w fun e w'=>∃g,e= .returned (.agg #[.slice (some ⟨g,0,none⟩) n n,.int .i64 most])/\w.heap.size<=g/\qk w' g L/\Below w.heap.size w w':=by
 have H:=q7g n a b most w hn.out;rw[hr.out]at H;exact H
theorem q88:(Tryz.prog.info? 113).map (fun i=>(i.zero,i.size,i.bytes))=some (some (.agg #[.slice none 0 0,.int .i64 0]),2,32):=by kernel_rfl
def aL(n g:Nat)(most:Int):List Value:=[.slice (some ⟨g,0,none⟩) n n,.int .i64 most]
def bY(n:Nat):List Nat->List Inq->List Value
 |g::gs,q::L=>aL n g q.2++bY n gs L
 |_,_=> []
theorem TZ{n g:Nat}{q:Inq}:∀{gs:List Nat} {L:List Inq},gs.length=L.length->bY n (gs++[g]) (L++[q])=bY n gs L++aL n g q.2
 | [],[],_=>by show aL n g q.2++[]=_;rw[List.append_nil];rfl
 |a::gs,b::L,h=>by
  show aL n a b.2++bY n (gs++[g]) (L++[q])=(aL n a b.2++bY n gs L)++aL n g q.2;rw[TZ (by grind),XT]
 | [],_::_,h=>by simp at h
 |_::_,[],h=>by simp at h
theorem q06{n:Nat}:∀{gs:List Nat} {L:List Inq} {i g:Nat} {q:Inq},gs.length=L.length->gs[i]? =some g->L[i]? =some q->(bY n gs L)[i*2]? =some (.slice (some ⟨g,0,none⟩) n n)/\(bY n gs L)[i*2+1]? =some (.int .i64 q.2)
 |a::gs,b::L,0,g,q,_,hg,hq=>by
  simp at hg hq;subst hg;subst hq;exact⟨rfl,rfl⟩
 |a::gs,b::L,i+1,g,q,h,hg,hq=>by
  have:=q06 (n:=n) (gs:=gs) (L:=L) (i:=i) (g:=g) (q:=q) (by grind) (by grind) (by grind)
  rw[show(i+1)*2=i*2+2 by omega];exact this
 | [],_,i,g,q,_,hg,_=>by simp at hg
 |_::_,[],i,g,q,h,_,_=>by simp at h
structure kU(w:World)(B:Nat)(v:Value)(n:Nat)(gs:List Nat)(L:List Inq):Prop where
 len:gs.length=L.length
 row:w.ownsRow B 113 2 v L.length (bY n gs L)
 co:∀(i g:Nat) (q:Inq),gs[i]? =some g->L[i]? =some q->B<=g/\q.1.length=n/\qk w g q.1
section
variable{w w':World}{B n:Nat}{v:Value}{gs:List Nat}{L:List Inq}
theorem kU.keep(h:kU w B v n gs L)(hb:Below w.heap.size w w'):kU w' B v n gs L:=
 ⟨h.len,Yr h.row hb (vA h.row),fun i g q hg hq=>by
  obtain⟨h1,h2,h3⟩:=h.co i g q hg hq;exact⟨h1,h2,h3.keep hb⟩⟩
theorem kU.snoc(h:kU w B v n gs L){o:Obj}{g9 c9 g:Nat}{q:Inq}{w9:World}(hg:B<=g/\qk w g q.1)(hq:q.1.length=n)(hown:w9.ownsRow B 113 2 (.slice (some ⟨g9,0,none⟩) (L.length+1) c9) (L.length+1) (bY n gs L++aL n g q.2))(hgrow:(w.alloc o).grownBy w9 v.ownBlock):
  kU w9 B (.slice (some ⟨g9,0,none⟩) (L.length+1) c9) n (gs++[g]) (L++[q]):=by
 have hne:∀{x:Nat} {l:List Int},qk w x l->v.ownBlock≠some x:=fun {x l} hx e=>by
  rcases h.row.2 with⟨hv,_⟩|⟨g',cap,cur,hv,_,hh,_⟩
  ·rw[hv]at e;simp[Value.ownBlock]at e
  ·rw[hv]at e;have:g'=x:=by simpa[Value.ownBlock]using e
   subst this;unfold qk zm at hx
   grind
 have hk:∀{x:Nat} {l:List Int},qk w x l->qk w9 x l:=fun {x l} hx=>by
  have hlt:=zm.lt hx;have h1:(w.alloc o).heap[x]? =w.heap[x]? :=Below.heap_alloc w o x hlt;exact((hgrow.block x (by simp;omega) (by grind)).trans h1).trans hx
 refine⟨by rw[Xh,Xh,h.len];rfl,?_,fun i a b ha hb=> ?_⟩
 ·rw[TZ h.len,Xh];exact hown
 ·rcases Xl i L.length with r|r
  ·rw[XO (by rw[h.len];exact r)]at ha;rw[XO r]at hb;obtain⟨h1,h2,h3⟩:=h.co i a b ha hb
   grind
  ·have hi:i<(L++[q]).length:=(by grind)
   have:i=L.length:=by grind
   subst this;rw[XN (by rw[h.len];omega)]at ha
   grind
theorem kU.app{g0 c0 nn:Nat}(h:kU w B (.slice (some ⟨g0,0,none⟩) nn c0) n gs L)(hN:L.length=nn){o:Obj}{g9 c9 g:Nat}{q:Inq}{w9:World}(hg:B<=g/\qk w g q.1)(hq:q.1.length=n)(hown:w9.ownsRow B 113 2 (.slice (some ⟨g9,0,none⟩) (nn+1) c9) (nn+1) (bY n gs L++aL n g q.2))(hgrow:(w.alloc o).grownBy w9 (Value.slice (some ⟨g0,0,none⟩) nn c0).ownBlock):
  kU w9 B (.slice (some ⟨g9,0,none⟩) (nn+1) c9) n (gs++[g]) (L++[q]):=by
 subst hN;exact h.snoc hg hq hown hgrow
theorem kU.row'{v:Value}{nn:Nat}(h:kU w B v n gs L)(hN:L.length=nn):w.ownsRow B 113 2 v nn (bY n gs L):=by
 subst hN;exact h.row
theorem qhb(n g:Nat)(most:Int):∀u ∈aL n g most,u.oneCell'=true:=fun u hu=>by
 unfold aL at hu;simp at hu;rcases hu with rfl|rfl<;>rfl
theorem qju(w:World)(n g:Nat)(most:Int):∀(j:Nat) (u:Value),(aL n g most)[j]? =some u->(w.alloc (.cells #[.slice (some ⟨g,0,none⟩) n n,.int .i64 most] 113)).cell? ((⟨w.heap.size,0,none⟩:Addr).add j)=some u:=fun j u hj=>by
 have hc:=qr w [.slice (some ⟨g,0,none⟩) n n,.int .i64 most] 113;have e:(⟨w.heap.size,0,none⟩:Addr).add j=⟨w.heap.size,j,none⟩:=by unfold Addr.add;grind
 rw[e];exact hc j u hj
theorem kU.one{g:Nat}{q:Inq}(hg:B<=g/\qk w g q.1)(hq:q.1.length=n)(hB:B<=w.heap.size):
  kU (w.alloc (.cells #[.slice (some ⟨g,0,none⟩) n n,.int .i64 q.2] 113)) B (.slice (some ⟨w.heap.size,0,none⟩) 1 1) n [g] [q]:=
 ⟨rfl,⟨rfl,.inr ⟨w.heap.size,1,#[.slice (some ⟨g,0,none⟩) n n,.int .i64 q.2],rfl,hB,Xz _ _,zn _,by unfold maxLen;omega,rfl,rfl⟩⟩,fun i a b ha hb=>by
  match i,ha,hb with
  |0,ha,hb=>
   simp at ha hb;subst ha;subst hb;exact⟨hg.1,hq,hg.2.keep (zk)⟩
  |i+1,ha,hb=>simp at ha⟩
theorem kU.at_{g' c:Nat}(h:kU w B (.slice (some ⟨g',0,none⟩) L.length c) n gs L){i:Nat}{q:Inq}(hq:L[i]? =some q):∃g,w.cell? ⟨g',i*2,none⟩=some (.slice (some ⟨g,0,none⟩) n n)/\w.cell? ⟨g',i*2+1,none⟩=some (.int .i64 q.2)/\qk w g q.1/\q.1.length=n/\g'<w.heap.size/\g<w.heap.size:=by
 have hi:i<gs.length:=by rw[h.len];grind
 obtain⟨e0,e1⟩:=q06 (n:=n) h.len (Xc hi) hq;obtain⟨h1,h2,h3⟩:=h.co i _ q (Xc hi) hq;obtain⟨hb,hc⟩:=lZ h.row;exact⟨gs[i],(hc _ _ e0).1,(hc _ _ e1).1,h3,h2,(hc _ _ e0).2,zm.lt h3⟩
end
