import Derived.Test.YtdbfllajopcccaaGreatFA18
import Derived.Maps.AppendAt
namespace Go.Proofs.YtdbfllajopcccaaGreat
set_option maxRecDepth 100000
set_option linter.unusedVariables false
set_option linter.unusedSimpArgs false
open Go.ChangeShapes Go.WideShapes Go.ChangeAt Go.RowKit
def jS(m:za)(p g:Int):Int:=if(zm m g).pot>p then(zm m g).pot else p
def jq(m:za)(L:List Int):Int:=L.foldl (jS m) 0
theorem qbo{m:za}{L:List Int}{k:Nat}(hk:k<L.length):jq m (L.take (k+1))=jS m (jq m (L.take k)) L[k]:=by
 unfold jq;rw[List.take_add_one,List.getElem?_eq_getElem hk,List.foldl_append];rfl
def jx(m:za)(op a b:Int):Int:=if op=22 then 1+(qS m.classes a).length else if op=23 then 1+a else jq m (qj m op a b)
def zR(sup:List Int)(s t:List (Int×Int)):Prop:=s.length=t.length∧∀(i:Nat) (h1:i<s.length) (h2:i<t.length),zG sup s[i].1 s[i].2 t[i].1 t[i].2=true
theorem qi4{sup:List Int}{k n k' n':Int}(h:zG sup k n k' n'=true)(g:jO k'=true):jO k=true:=by
 rw[vM]at h;unfold jO at g⊢
 rw[decide_eq_true_eq]at g⊢
 omega
theorem qm8{sup:List Int}{k n k' n':Int}(h:zG sup k n k' n'=true)(g:k=2):k'=2:=by
 rw[vM]at h;omega
theorem qn0{sup:List Int}{op:Int}{a b u:Int×Int}(h:zG sup a.1 a.2 b.1 b.2=true)(g:qk sup op b u=true):qk sup op a u=true:=by
 unfold qk at g⊢
 by_cases h0:u.1=0
 ·rw[if_pos h0]
 rw[if_neg h0]at g⊢
 by_cases h4:u.1=4
 ·rw[if_pos h4]at g⊢
  simp only[Bool.and_eq_true,Bool.not_eq_true',Bool.and_eq_false_iff,decide_eq_false_iff_not]at g⊢
  exact⟨qi4 h g.1,g.2.imp id (fun q r=>q (qm8 h r))⟩
 ·rw[if_neg h4]at g⊢
  exact q8p h g
theorem zR.take{sup:List Int}{s t:List (Int×Int)}(h:zR sup s t)(d:Nat):zR sup (s.take d) (t.take d):=by
 refine⟨by rw[List.length_take,List.length_take,h.1],fun i h1 h2=> ?_⟩;rw[List.getElem_take,List.getElem_take];exact h.2 i _ _
theorem zR.append{sup:List Int}{s t u v:List (Int×Int)}(h:zR sup s t)(g:zR sup u v):zR sup (s++u) (t++v):=by
 refine⟨by rw[List.length_append,List.length_append,h.1,g.1],fun i h1 h2=> ?_⟩;by_cases q:i<s.length
 ·rw[List.getElem_append_left q,List.getElem_append_left (by rw[←h.1];exact q)];exact h.2 i _ _
 ·rw[List.getElem_append_right (by omega),List.getElem_append_right (by rw[←h.1];omega)];have e:i - t.length=i - s.length:=by rw[h.1]
  simp only[e];exact g.2 _ _ _
theorem qpl{sup:List Int}{op:Int}{s t TK:List (Int×Int)}(h:zR sup s t)(g:(t.zip TK).all (fun p=>qk sup op p.1 p.2)=true):(s.zip TK).all (fun p=>qk sup op p.1 p.2)=true:=by
 rw[List.all_eq_true]at g⊢
 intro p hp;obtain⟨i,hi,rfl⟩:=List.getElem_of_mem hp;rw[List.length_zip]at hi;have h1:i<s.length:=by omega
 have h2:i<t.length:=by rw[←h.1];exact h1
 have h3:i<TK.length:=by omega
 have hz:i<(t.zip TK).length:=by rw[List.length_zip];omega
 have q:=g _ (List.getElem_mem hz);rw[List.getElem_zip]at q⊢
 exact qn0 (h.2 i h1 h2) q
theorem zR.drop{sup:List Int}{s t:List (Int×Int)}(h:zR sup s t)(d:Nat):zR sup (s.drop d) (t.drop d):=by
 refine⟨by rw[List.length_drop,List.length_drop,h.1],fun i h1 h2=> ?_⟩;rw[List.getElem_drop,List.getElem_drop];exact h.2 _ _ _
theorem qk0{sup:List Int}{op:Int}{TK GV GV' s t:List (Int×Int)}{nl:List Int}(h:zR sup s t)(hg:zR sup GV' GV)(e:(vk sup op TK GV nl t).err=0):
  (vk sup op TK GV' nl s).err=0∧(vk sup op TK GV' nl s).next=(vk sup op TK GV nl t).next∧zR sup (vk sup op TK GV' nl s).after (vk sup op TK GV nl t).after:=by
 by_cases g:t.length<TK.length∨8<t.length - TK.length+GV.length
 ·unfold vk at e;rw[if_pos g]at e;exact absurd e (show ¬(4:Int)=0 by decide)
 by_cases q:((t.drop (t.length - TK.length)).zip TK).all (fun p=>qk sup op p.1 p.2)=true
 ·have e1:vk sup op TK GV nl t=⟨t.take (t.length - TK.length)++GV,nl,0⟩:=by unfold vk;rw[if_neg g,if_pos q]
  have e2:vk sup op TK GV' nl s=⟨s.take (t.length - TK.length)++GV',nl,0⟩:=by
   unfold vk;rw[h.1,hg.1,if_neg g,if_pos (qpl (h.drop _) q)]
  rw[e1,e2];exact⟨rfl,rfl,(h.take _).append hg⟩
 ·unfold vk at e;rw[if_neg g,if_neg q]at e;exact absurd e (show ¬(4:Int)=0 by decide)
theorem zR.nil_iff{sup:List Int}{s t:List (Int×Int)}(h:zR sup s t):s=[]↔t=[]:=by
 rw[←List.length_eq_zero_iff,←List.length_eq_zero_iff,h.1]
theorem zR.last{sup:List Int}{s t:List (Int×Int)}(h:zR sup s t)(hs:s≠ []):zG sup (s.getLast?.getD (0,0)).1 (s.getLast?.getD (0,0)).2 (t.getLast?.getD (0,0)).1 (t.getLast?.getD (0,0)).2=true:=by
 have h0:0<s.length:=List.length_pos_iff.mpr hs;have h1:s.length - 1<s.length:=by omega
 have h2:s.length - 1<t.length:=by rw[←h.1];exact h1
 rw[List.getLast?_eq_getElem?,List.getLast?_eq_getElem?,←h.1,List.getElem?_eq_getElem h1,List.getElem?_eq_getElem h2];exact h.2 _ _ _
theorem zR.self{sup:List Int}{s:List (Int×Int)}(h:∀t ∈s,zG sup t.1 t.2 t.1 t.2=true):zR sup s s:=⟨rfl,fun _ h1 _=>h _ (List.getElem_mem h1)⟩
theorem qfz{m:za}{x:ze}{op a b:Int}{s t:List (Int×Int)}{sup:List Int}(h:zR sup s t):qO m x op a b s=qO m x op a b t:=by
 unfold qO;by_cases hs:s=[]
 ·rw[hs,h.nil_iff.mp hs]
 ·have ht:t≠ []:=fun e=>hs (h.nil_iff.mpr e);by_cases h6:op=6
  ·rw[if_pos ⟨h6,hs⟩,if_pos ⟨h6,ht⟩]
  ·rw[if_neg (fun q=>h6 q.1),if_neg (fun q=>h6 q.1)]
theorem qi9{m:za}{x:ze}{op a b:Int}{s t:List (Int×Int)}{sup:List Int}(h:zR sup s t)(hr:∀t ∈zB m x op a b,zG sup t.1 t.2 t.1 t.2=true):zR sup (ju m x op a b s) (ju m x op a b t):=by
 unfold ju;by_cases hs:s=[]
 ·rw[hs,h.nil_iff.mp hs,if_neg (fun q=>q.2 rfl)];exact zR.self hr
 ·have ht:t≠ []:=fun e=>hs (h.nil_iff.mpr e);by_cases h6:op=6
  ·rw[if_pos ⟨h6,hs⟩,if_pos ⟨h6,ht⟩];have hl:=h.last hs;refine⟨rfl,fun i h1 h2=> ?_⟩
   match i,h1 with
   |0,_=>exact hl
   |1,_=>exact hl
  ·rw[if_neg (fun q=>h6 q.1),if_neg (fun q=>h6 q.1)];exact zR.self hr
theorem qk4{m:za}{x:ze}{pc op a b:Int}{s t:List (Int×Int)}(h:zR (zw m.classes) s t)(hr:∀t ∈zB m x op a b,zG (zw m.classes) t.1 t.2 t.1 t.2=true)(e:(qr m x pc op a b t).err=0):
  (qr m x pc op a b s).err=0∧(qr m x pc op a b s).next=(qr m x pc op a b t).next∧zR (zw m.classes) (qr m x pc op a b s).after (qr m x pc op a b t).after:=by
 by_cases ho:(qE pc op a).head?.any (fun n=>decide ((x.code.length:Int)≤n))=true
 ·unfold qr at e;rw[if_pos ho]at e;exact absurd e (show ¬(4:Int)=0 by decide)
 by_cases h6:op=6∧t=[]
 ·obtain⟨rfl,rfl⟩:=h6;rw[q4h]at e;exact absurd e (show ¬(4:Int)=0 by decide)
 have h6':¬(op=6∧s=[]):=fun q=>h6 ⟨q.1,h.nil_iff.mp q.2⟩;rw[QS ho h6]at e⊢
 rw[QS ho h6',qfz h];exact qk0 h (qi9 h hr) e
theorem kB{c:Prop}[Decidable c]{A B:List (Int×Int)}{P:Int×Int→Prop}(hA:c→∀t ∈A,P t)(hB:¬c→∀t ∈B,P t):∀t ∈(if c then A else B),P t:=by
 by_cases g:c
 ·rw[if_pos g];exact hA g
 ·rw[if_neg g];exact hB g
theorem Zd{P:Int×Int→Prop}{u:Int×Int}(h:P u):∀t ∈ [u],P t:=fun t ht=>by
 rw[List.mem_singleton.mp ht];exact h
theorem q03{cl:List qv}{t:Int×Int}(h:jL t.1 t.2 cl.length=true):zG (zw cl) t.1 t.2 t.1 t.2=true:=by
 unfold jL at h;rw[decide_eq_true_eq]at h;refine Yh (by omega) (fun h3=> ?_);rw[vZ];omega
theorem q3p{m:za}(hm:zP m){c:Int}{t:Int×Int}(h:t ∈qS m.classes c):jL t.1 t.2 m.classes.length=true:=by
 unfold qS at h;obtain⟨j,_,hj⟩:=List.mem_flatMap.mp h;unfold vU at hj;cases hc:m.classes[j.toNat]? with
 |none=>rw[hc]at hj;simp at hj
 |some y=>
  rw[hc]at hj;have h1:=hm.cls _ _ hc;unfold qo at h1;simp only[Bool.and_eq_true]at h1;have h2:=h1.2.1;unfold Zi at h2;exact List.all_eq_true.mp h2 _ hj
theorem qbl{m:za}{y:ze}(hy:q6r m y):∀t ∈jd y,zG (zw m.classes) t.1 t.2 t.1 t.2=true:=by
 unfold jd;refine kB (fun _ t ht=>absurd ht (by simp)) (fun h5=>Zd ?_);rcases hy.rt with h|h
 ·rw[h]at h5;exact absurd rfl h5
 ·exact q03 h
theorem QX{l:List (Int×Int)}{a:Int}(h0:0≤a)(h1:a<l.length):l[a.toNat]?.getD (0,0) ∈l:=by
 have h2:a.toNat<l.length:=by omega
 rw[List.getElem?_eq_getElem h2];exact List.getElem_mem h2
theorem qmg{m:za}{x:ze}{f:Nat}{op a b:Int}(hm:zP m)(hg:m.methods[f]? =some x)(hi:jb op a b=true)(hn:zQ m x op a b=true):
  ∀t ∈zB m x op a b,zG (zw m.classes) t.1 t.2 t.1 t.2=true:=by
 obtain⟨o0,o1,a0,a1,b0,b1⟩:=Za hi;have hx:=hm.method (List.mem_of_getElem? hg);have s1:zG (zw m.classes) 1 0 1 0=true:=Yh (.inl rfl) (fun q=>by cases q);have s2:zG (zw m.classes) 2 0 2 0=true:=Yh (.inr (.inl rfl)) (fun q=>by cases q);have s4:zG (zw m.classes) 4 0 4 0=true:=Yh (.inr (.inr (.inr rfl))) (fun q=>by cases q);have s3:a<m.classes.length→zG (zw m.classes) 3 a 3 a=true:=fun q=>Yh (.inr (.inr (.inl rfl))) (fun _=>⟨a0,by rw[vZ];exact q⟩);unfold zB;refine kB (fun _=>Zd s1) (fun _=> ?_);refine kB (fun _=>Zd s4) (fun _=> ?_);refine kB (fun h=>Zd ?_) (fun _=> ?_)
 ·have hl:=q4z (.inl h) hn;unfold qB;rw[if_pos a0];have hmem:=QX (l:=x.args++x.locals) a0 (by rw[List.length_append];omega);rcases List.mem_append.mp hmem with q|q
  ·exact q03 (hx.at_ _ q)
  ·exact q03 (hx.lt _ q)
 refine kB (fun _=>Zd s1) (fun _=> ?_);refine kB (fun _=>Zd s1) (fun _=> ?_);refine kB (fun h=>Zd (s3 (q7z (.inl h) hn))) (fun _=> ?_);refine kB (fun _=>Zd s2) (fun _=> ?_);refine kB (fun _=>Zd s1) (fun _=> ?_);refine kB (fun _=>Zd s1) (fun _=> ?_);refine kB (fun h=>Zd ?_) (fun _=> ?_)
 ·exact q03 (q3p hm (QX b0 (Yd (.inl h) hn).2))
 refine kB (fun h=>Zd ?_) (fun _=> ?_)
 ·exact q03 (hm.st _ (QX a0 (JZ (.inl h) hn)))
 refine kB (fun h=>Zd (s3 (q7z (.inr h) hn))) (fun _=> ?_);refine kB (fun h=> ?_) (fun _=> ?_)
 ·subst h;have h1:=Yg hn;have h2:a.toNat<m.methods.length:=by omega
  refine qbl (hm.method ?_);unfold zm;rw[List.getElem?_eq_getElem h2];exact List.getElem_mem h2
 refine kB (fun h=> ?_) (fun _=> ?_)
 ·subst h;obtain⟨_,k,y,hk,hy,_⟩:=Yf hm a0 b0 hn;refine qbl (hm.method ?_);unfold zm kt;rw[hk,Option.getD_some,Int.toNat_natCast,hy];exact List.mem_of_getElem? hy
 refine kB (fun _=>Zd s1) (fun _=> ?_);exact fun t ht=>absurd ht (by simp)
theorem q7u{m:za}{f pc:Int}{s t:List (Int×Int)}(hm:zP m)(h:zR (zw m.classes) s t)(e:(zK m f pc t).err=0):
  (zK m f pc s).err=0∧(zK m f pc s).next=(zK m f pc t).next∧zR (zw m.classes) (zK m f pc s).after (zK m f pc t).after:=by
 unfold zK at e⊢
 by_cases g:0≤f∧f<m.methods.length∧0≤pc∧pc<(zm m f).code.length
 ·rw[if_pos g]at e;rw[if_pos g,if_pos g];cases hi:(zm m f).code[pc.toNat]? with
  |none=>rw[hi]at e;exact absurd e (show ¬(1:Int)=0 by decide)
  |some i=>
   rw[hi]at e;have hf:f.toNat<m.methods.length:=by omega
   have hg:m.methods[f.toNat]? =some (zm m f):=by unfold zm;rw[List.getElem?_eq_getElem hf];rfl
   have hx:=hm.method (List.mem_of_getElem? hg);have him:=List.mem_of_getElem? hi;exact qk4 h (qmg hm hg (hx.fits.ct _ him) (hx.co _ him)) e
 ·rw[if_neg g]at e;exact absurd e (show ¬(1:Int)=0 by decide)
structure zu where
 seen:Bool
 stack:List (Int×Int)
deriving DecidableEq
def YE:qI zu:=fun w B p s=>w.cell? p=some (.bool s.seen)∧qb zi 2 w B (zc p 1) s.stack
theorem YE.keeps:vF YE:=fun _ _ _ _ p _ h hp hC hc=>⟨(hc _ hp).trans h.1,qb.keeps zi.keeps 2 h.2 hp hC hc⟩
theorem RowAt.keeps:vF (qb YE 2):=qb.keeps YE.keeps 2
def zv(S:List zu)(i:Int):zu:=S[i.toNat]?.getD ⟨false,[]⟩
theorem QC{S:List zu}{i:Nat}(h:i<S.length):zv S (i:Int)=S[i]:=by unfold zv;rw[Int.toNat_natCast,List.getElem?_eq_getElem h];rfl
def q2r(sup:List Int)(a b:List (Int×Int)):Bool:=decide (a.length=b.length)&& (a.zip b).all fun p=>zG sup p.1.1 p.1.2 p.2.1 p.2.2
theorem q3s{sup:List Int}{a b:List (Int×Int)}:q2r sup a b=true↔zR sup a b:=by
 unfold q2r zR;rw[Bool.and_eq_true,decide_eq_true_eq,List.all_eq_true];constructor
 ·rintro⟨h1,h2⟩;refine⟨h1,fun i g1 g2=> ?_⟩;have hz:i<(a.zip b).length:=by rw[List.length_zip];omega
  have:=h2 _ (List.getElem_mem hz);rw[List.getElem_zip]at this;exact this
 ·rintro⟨h1,h2⟩;refine⟨h1,fun p hp=> ?_⟩;obtain⟨i,hi,rfl⟩:=List.getElem_of_mem hp;rw[List.getElem_zip];exact h2 i _ _
def onB(m:za)(S:List zu)(af:List (Int×Int))(n:Int):Bool:=(zv S n).seen&& q2r (zw m.classes) af (zv S n).stack
def goB(m:za)(f pc:Int)(S:List zu)(st:List (Int×Int)):Bool:=decide ((zK m f pc st).err=0)&& (zK m f pc st).next.all (onB m S (zK m f pc st).after)
def ZQ(m:za)(f:Int)(S:List zu)(pc:Int):Bool:= !(zv S pc).seen||goB m f pc S (zv S pc).stack
def qdk(m:za)(f:Int)(S:List zu):Bool:=decide (0<S.length)&& (decide (S.length=(zm m f).code.length)&& ((zv S 0).seen&& decide ((zv S 0).stack.length=0)))
def vP(m:za)(f:Int)(S:List zu):Bool:=qdk m f S&& (List.range S.length).all (fun pc=>ZQ m f S (pc:Int))
def JL(m:za)(maps:List (List zu)):Bool:=decide (maps.length=m.methods.length)&& (List.range maps.length).all (fun f=>vP m (f:Int) (maps[f]?.getD []))
theorem Jz{n:Nat}{p:Nat→Bool}:(List.range n).all p=true↔∀i<n,p i=true:=by
 rw[List.all_eq_true];exact⟨fun h i hi=>h i (List.mem_range.mpr hi),fun h i hi=>h i (List.mem_range.mp hi)⟩
theorem ql0{n:Nat}{p:Nat→Bool}{i:Nat}(hi:i<n)(h:p i=false):(List.range n).all p=false:=by
 rw[Bool.eq_false_iff];intro q;have:=Jz.mp q i hi;rw[h]at this;cases this
theorem Vv{m:za}{x:ze}{F P:Nat}{op a b:Int}{st:List (Int×Int)}(hi:jb op a b=true)(hn:zQ m x op a b=true)(he:(qr m x P op a b st).err=0):∀n ∈(qr m x P op a b st).next,0≤n∧n<x.code.length:=by
 obtain⟨o0,o1,a0,a1,b0,b1⟩:=Za hi;have e4:¬(qL 4).err=0:=by unfold qL;decide
 unfold qr at he⊢
 by_cases h1:(qE P op a).head?.any (fun n=>decide ((x.code.length:Int)≤n))=true
 ·rw[if_pos h1]at he;exact absurd he e4
 rw[if_neg h1]at he⊢
 by_cases h2:(op=6∧st=[])∨st.length<(qO m x op a b st).length∨8<st.length - (qO m x op a b st).length+(ju m x op a b st).length
 ·rw[if_pos h2]at he;exact absurd he e4
 rw[if_neg h2]at he⊢
 by_cases h3:((st.drop (st.length - (qO m x op a b st).length)).zip (qO m x op a b st)).all (fun p=>qk (zw m.classes) op p.1 p.2)=true
 ·rw[if_pos h3];intro n hm;dsimp only at hm;unfold qE at hm h1;by_cases h18:op=18
  ·rw[if_pos h18]at hm h1;simp at hm h1;omega
  ·rw[if_neg h18]at hm h1;by_cases h19:op=19
   ·rw[if_pos h19]at hm h1;have:=q96 (.inr h19) hn;simp at hm h1;omega
   ·rw[if_neg h19]at hm h1;by_cases h33:op=33
    ·rw[if_pos h33]at hm;simp at hm
    ·rw[if_neg h33]at hm h1;simp at hm h1;omega
 ·rw[if_neg h3]at he;exact absurd he e4
def zM(x:ze)(i:Int):Int:=x.phi[i.toNat]?.getD 0
def qs(m:za)(x:ze)(pc:Nat):Int:=match x.code[pc]? with
 |some i=>jx m i.1 i.2.1 i.2.2
 |none=>0
def qh(m:za)(f:Nat)(S:List zu)(pc:Nat):List Int:=(zK m (f:Int) (pc:Int) (zv S (pc:Int)).stack).next
def vG(m:za)(x:ze)(pc:Nat)(q:Int):Bool:=decide (qs m x pc+zM x q≤zM x pc)
def vg(m:za)(f:Nat)(x:ze)(S:List zu)(pc:Nat):Bool:= !(zv S (pc:Int)).seen||(qh m f S pc).all (vG m x pc)
def vQ(m:za)(f:Nat)(x:ze)(S:List zu):Bool:=decide (zM x 0≤x.pot)&& (List.range x.code.length).all (vg m f x S)
def vd(m:za)(l:List (List zu))(f:Nat):Bool:= !vQ m f (zm m (f:Int)) (l[f]?.getD [])
def qZ(m:za)(l:List (List zu)):Int:=match(List.range m.methods.length).find? (vd m l)with
 |some f=>(f:Int)
 |none=> -1
theorem qij{p:Nat→Bool}{n f:Nat}(hf:f<n)(h:∀g,g<f→p g=false)(hp:p f=true):(List.range n).find? p=some f:=by
 rw[List.find?_eq_some_iff_append];refine⟨hp,List.range f,(List.range (n - f - 1)).map (fun k=>f+1+k),?_,fun a ha=> ?_⟩
 ·refine List.ext_getElem? fun i=> ?_;rcases Nat.lt_or_ge i f with q|q
  ·rw[List.getElem?_range (by omega),List.getElem?_append_left (by rw[List.length_range];exact q),List.getElem?_range q]
  ·rw[List.getElem?_append_right (by rw[List.length_range];exact q),List.length_range];rcases Nat.eq_or_lt_of_le q with e|q2
   ·subst e;rw[List.getElem?_range hf,Nat.sub_self];rfl
   ·rw[show i - f=(i - f - 1)+1 by omega,List.getElem?_cons_succ,List.getElem?_map];rcases Nat.lt_or_ge i n with r|r
    ·rw[List.getElem?_range r,List.getElem?_range (by omega)];show some i=some (f+1+(i - f - 1));congr 1;omega
    ·rw[List.getElem?_eq_none (by rw[List.length_range];exact r),List.getElem?_eq_none (by rw[List.length_range];omega)];rfl
 ·rw[List.mem_range]at ha;rw[h a ha];rfl
theorem q0e{m:za}{l:List (List zu)}{f:Nat}(hf:f<m.methods.length)(h:∀g,g<f→vd m l g=false)(hp:vd m l f=true):qZ m l=(f:Int):=by
 unfold qZ;rw[qij hf h hp]
theorem q1v{m:za}{l:List (List zu)}(h:∀g,g<m.methods.length→vd m l g=false):qZ m l= -1:=by
 unfold qZ;rw[List.find?_eq_none.mpr (fun g hg=>by rw[List.mem_range]at hg;rw[h g hg];simp)]
theorem qh2(m:za)(l:List (List zu)): -1≤qZ m l∧qZ m l<m.methods.length:=by
 unfold qZ;cases h:(List.range m.methods.length).find? (vd m l)with
 |none=>exact⟨Int.le_refl _,by dsimp only;omega⟩
 |some f=>
  have:=List.mem_of_find?_eq_some h;rw[List.mem_range]at this;dsimp only;omega
theorem q64{m:za}{f pc:Nat}{x:ze}{S:List zu}(hp:pc<x.code.length)(h:vg m f x S pc=false):vQ m f x S=false:=by
 unfold vQ;rw[ql0 hp h,Bool.and_false]
theorem q5s{m:za}{f:Nat}{x:ze}{S:List zu}(h0:zM x 0≤x.pot)(h:∀pc,pc<x.code.length→vg m f x S pc=true):vQ m f x S=true:=by
 unfold vQ;rw[decide_eq_true h0,Jz.mpr h];rfl
def qN(n:Nat)(a b most:Int):List Int×Int:=((List.range n).map fun v:Nat=>(if(v:Int)=b then 1 else 0) - (if(v:Int)=a then 1 else 0),most)
def kO(m:za)(f:Nat)(x:ze)(S:List zu)(pc:Nat):List (List Int×Int):=
 if(zv S (pc:Int)).seen=true then
  if qh m f S pc=[]then [qN x.code.length (pc:Int) (-1) 0]else(qh m f S pc).map fun q=>qN x.code.length (pc:Int) q (-(qs m x pc))
 else []
def jl(m:za)(f:Nat)(x:ze)(S:List zu):Nat→List (List Int×Int)
 |0=> [qN x.code.length (-1) 0 x.pot]
 |pc+1=>jl m f x S pc++kO m f x S pc
def vB(m:za)(l:List (List zu))(f:Int):List (List Int×Int):=if 0≤f∧f<m.methods.length then jl m f.toNat (zm m f) (l[f.toNat]?.getD []) (zm m f).code.length else []
theorem qgj(m:za)(f pc:Int)(st:List (Int×Int))(A:Option Addr)(cap:Nat)(h:zl)(w:World)(H:zp w w.heap.size h m)(hf:f<0):
  Calls Tryz.prog 16 #[zr h m,.int .i64 f,.int .i64 pc,.slice A st.length cap] w (Zf (zK m f pc st) w):=by
 have e0:zK m f pc st=qL 1:=by unfold zK;rw[if_neg (by omega)]
 rw[e0];clear e0;have hle:=H.methods.le;have hcap:=H.methods.cap;have HW:=zH (((zb w.heap.size w).alloc (zn _) (zq h m)));have HIM:=zH (H.now HW.out);have HBX:=zH (qf w h m);have HZ:Hid (w.heap.size<(w.alloc (zq h m)).heap.size):=zH (by simp);clear H;go_enter Tryz.func16,Tryz.ntmps16;go_upto_region 1 with fail
 generalize w.alloc (zq h m)=w1 at*
 obtain⟨q0,q1,q2,q3,q4,q5,q6⟩:=HBX.out;go_wp2_with fail
 go_ret3
 exact kw 1 HW.out
theorem qgi(m:za)(f pc:Int)(st:List (Int×Int))(A:Option Addr)(cap:Nat)(h:zl)(w:World)(H:zp w w.heap.size h m)(hf0:0≤f)(hf:(m.methods.length:Int)≤f):
  Calls Tryz.prog 16 #[zr h m,.int .i64 f,.int .i64 pc,.slice A st.length cap] w (Zf (zK m f pc st) w):=by
 have e0:zK m f pc st=qL 1:=by unfold zK;rw[if_neg (by omega)]
 rw[e0];clear e0;have hle:=H.methods.le;have hcap:=H.methods.cap;have HW:=zH (((zb w.heap.size w).alloc (zn _) (zq h m)));have HIM:=zH (H.now HW.out);have HBX:=zH (qf w h m);have HZ:Hid (w.heap.size<(w.alloc (zq h m)).heap.size):=zH (by simp);clear H;go_enter Tryz.func16,Tryz.ntmps16;go_upto_region 1 with fail
 generalize w.alloc (zq h m)=w1 at*
 obtain⟨q0,q1,q2,q3,q4,q5,q6⟩:=HBX.out;have g0:¬f<0:=by omega
 go_wp2_with fail
 go_ret3
 exact kw 1 HW.out
theorem qgh(m:za)(f pc:Int)(st:List (Int×Int))(A:Option Addr)(cap:Nat)(h:zl)(w:World)(H:zp w w.heap.size h m)(hf0:0≤f)(hf:f<(m.methods.length:Int))(hp:pc<0):
  Calls Tryz.prog 16 #[zr h m,.int .i64 f,.int .i64 pc,.slice A st.length cap] w (Zf (zK m f pc st) w):=by
 have e0:zK m f pc st=qL 1:=by unfold zK;rw[if_neg (by omega)]
 rw[e0];clear e0;have hle:=H.methods.le;have hcap:=H.methods.cap;have HW:=zH (((zb w.heap.size w).alloc (zn _) (zq h m)));have HIM:=zH (H.now HW.out);have HBX:=zH (qf w h m);have HZ:Hid (w.heap.size<(w.alloc (zq h m)).heap.size):=zH (by simp);clear H;go_enter Tryz.func16,Tryz.ntmps16;go_upto_region 1 with fail
 generalize w.alloc (zq h m)=w1 at*
 obtain⟨q0,q1,q2,q3,q4,q5,q6⟩:=HBX.out;have g0:¬f<0:=by omega
 have g1:¬(m.methods.length:Int)≤f:=by omega
 go_wp2_with fail
 go_ret3
 exact kw 1 HW.out
theorem qgg(m:za)(x:ze)(f:Nat)(pc:Int)(st:List (Int×Int))(A:Option Addr)(cap:Nat)(h:zl)(w:World)(H:zp w w.heap.size h m)(hg:m.methods[f]? =some x)(hp0:0≤pc)(hp:(x.code.length:Int)≤pc):
  Calls Tryz.prog 16 #[zr h m,.int .i64 f,.int .i64 pc,.slice A st.length cap] w (Zf (zK m f pc st) w):=by
 have hk:f<m.methods.length:=(List.getElem?_eq_some_iff.mp hg).1;have hx:m.methods[f]=x:=(List.getElem?_eq_some_iff.mp hg).2;have e0:zK m f pc st=qL 1:=by unfold zK zm;rw[Int.toNat_natCast,hg,Option.getD_some,if_neg (by omega)]
 rw[e0];clear e0;have hle:=H.methods.le;have hcap:=H.methods.cap;have HW:=zH (((zb w.heap.size w).alloc (zn _) (zq h m)));have HIM:=zH (H.now HW.out);have HBX:=zH (qf w h m);have HZ:Hid (w.heap.size<(w.alloc (zq h m)).heap.size):=zH (by simp);clear H hg;go_enter Tryz.func16,Tryz.ntmps16;go_upto_region 1 with fail
 generalize w.alloc (zq h m)=w1 at*
 obtain⟨q0,q1,q2,q3,q4,q5,q6⟩:=HBX.out;obtain⟨ad,hx',eA,hab,hin,hc⟩:=jB HIM.out hk;rw[hx]at hin hc;have ccap:=hin.code.cap;have cle:=hin.code.le;have c4:=hc.c4;rw[eA]at q3;clear hin hc eA;have g0:¬(f:Int)<0:=by omega
 have g1:¬(m.methods.length:Int)≤f:=by omega
 have g2:¬pc<0:=by omega
 go_wp2_with fail
 go_ret3
 exact kw 1 HW.out
structure zy where
 seen:Bool
 A:Option Addr
 c:Nat
 stack:List (Int×Int)
def zy.shp(x:zy):zu:=⟨x.seen,x.stack⟩
def JV(x:zy):List Value:=[.bool x.seen,.slice x.A x.stack.length x.c]
def JU(X:List zy):List Value:=X.flatMap JV
structure qx(w:World)(g:Nat)(X:List zy):Prop where
 blk:zf w g (JU X) 52
 row:∀x ∈X,zd zi 2 w w.heap.size x.A x.c x.stack
theorem qnt(X:List zy):(JU X).length=X.length*2:=q19 (f:=JV) (k:=2) (fun _=>rfl) X
theorem qx.seen_at{w:World}{g i:Nat}{X:List zy}(h:qx w g X)(hi:i<X.length):w.cell? ⟨g,i*2,none⟩=some (.bool X[i].seen):=
 h.blk.cells _ _ (Zs (f:=JV) (k:=2) (fun _=>rfl) X i 0 X[i] (List.getElem?_eq_getElem hi) (by decide))
theorem qx.stack_at{w:World}{g i:Nat}{X:List zy}(h:qx w g X)(hi:i<X.length):w.cell? ⟨g,i*2+1,none⟩=some (.slice X[i].A X[i].stack.length X[i].c):=
 h.blk.cells _ _ (Zs (f:=JV) (k:=2) (fun _=>rfl) X i 1 X[i] (List.getElem?_eq_getElem hi) (by decide))
theorem qx.noint{w:World}{g:Nat}{X:List zy}(h:qx w g X){p:Addr}{k:IntKind}{v:Int}(hp:p.block=g):¬w.cell? p=some (.int k v):=fun e=>by
 have hb:=h.blk;unfold zf at hb;unfold World.cell? at e;rw[hp,hb]at e;simp at e;obtain⟨_,e⟩:=e;have hm:(Value.int k v) ∈JU X:=List.mem_of_getElem? e;obtain⟨x,_,hx⟩:=List.mem_flatMap.mp hm;simp[JV]at hx
theorem qx.ty_apart{w:World}{g B c i:Nat}{X:List zy}{A:Option Addr}{L:List (Int×Int)}(h:qx w g X)(hs:zd zi 2 w B A c L)(hi:i<L.length):∀ad,A=some ad→ad.block≠g:=fun ad e q=>by
 obtain⟨ad',e',_,h0,_⟩:=hs.row.at_ hi;rw[e]at e';injection e' with e';subst e';exact h.noint (p:=ad.add (i*2)) (by rw[zt];exact q) h0
theorem qx.int_apart{w:World}{g B c i:Nat}{X:List zy}{A:Option Addr}{L:List Int}(h:qx w g X)(hs:zd zo 1 w B A c L)(hi:i<L.length):∀ad,A=some ad→ad.block≠g:=fun ad e q=>by
 obtain⟨ad',e',_,h0⟩:=hs.row.at_ hi;rw[e]at e';injection e' with e';subst e';exact h.noint (p:=ad.add (i*1)) (by rw[zt];exact q) h0
theorem Yk{w w':World}{g B C c:Nat}{A:Option Addr}{L:List (Int×Int)}(hs:zd zi 2 w B A c L)(hC:B≤C)(hk:∀q:Addr,q.block≠g→w'.cell? q=w.cell? q)(ha:∀i,i<L.length→∀ad,A=some ad→ad.block≠g):zd zi 2 w' C A c L:=
 ⟨hs.le,hs.cap,fun i t hi=>by
  obtain⟨ad,e,hb,h0,h1⟩:=hs.row i t hi;have hil:i<L.length:=by
   rcases Nat.lt_or_ge i L.length with q|q
   ·exact q
   ·rw[List.getElem?_eq_none q]at hi;cases hi
  have hn:=ha i hil ad e;refine⟨ad,e,Nat.lt_of_lt_of_le hb hC,(hk _ (by rw[zt];exact hn)).trans h0,(hk _ (by show(ad.add _).block≠g;rw[zt];exact hn)).trans h1⟩⟩
theorem q20{w w':World}{g B C c:Nat}{A:Option Addr}{L:List Int}(hs:zd zo 1 w B A c L)(hC:B≤C)(hk:∀q:Addr,q.block≠g→w'.cell? q=w.cell? q)(ha:∀i,i<L.length→∀ad,A=some ad→ad.block≠g):zd zo 1 w' C A c L:=
 ⟨hs.le,hs.cap,fun i t hi=>by
  obtain⟨ad,e,hb,h0⟩:=hs.row i t hi;have hil:i<L.length:=by
   rcases Nat.lt_or_ge i L.length with q|q
   ·exact q
   ·rw[List.getElem?_eq_none q]at hi;cases hi
  have hn:=ha i hil ad e;exact⟨ad,e,Nat.lt_of_lt_of_le hb hC,(hk _ (by rw[zt];exact hn)).trans h0⟩⟩
theorem qx.keep{w w':World}{g:Nat}{X:List zy}(h:qx w g X)(hb:Below w.heap.size w w'):qx w' g X:=
 ⟨h.blk.keep hb h.blk.lt,fun x hx=>((h.row x hx).below_to zi.keeps hb (zn _)).keep' zi.keeps hb.size (fun _ _=>rfl)⟩
abbrev qR(w:World)(g i:Nat)(x:zy):World:=(w.setCell ⟨g,i*2,none⟩ (.bool x.seen)).setCell ⟨g,i*2+1,none⟩ (.slice x.A x.stack.length x.c)
theorem QT(w:World)(g i:Nat)(x:zy):∀q:Addr,q.block≠g→(qR w g i x).cell? q=w.cell? q:=fun q hq=>by
 unfold qR;rw[World.cell?_setCell_far _ _ _ _ (fun e=>hq e.symm),World.cell?_setCell_far _ _ _ _ (fun e=>hq e.symm)]
theorem qbh:∀(X:List zy) (i:Nat) (x:zy),(JU (X.set i x))=((JU X).set (i*2) (.bool x.seen)).set (i*2+1) (.slice x.A x.stack.length x.c)∨X.length≤i
 | [],i,x=> .inr (Nat.zero_le _)
 |y::X,0,x=> .inl rfl
 |y::X,i+1,x=>by
  rcases qbh X i x with h|h
  ·refine .inl ?_;show JV y++JU (X.set i x)=((JV y++JU X).set _ _).set _ _;rw[h,show(i+1)*2=i*2+2 by omega];rfl
  ·exact .inr (by simp;omega)
theorem qx.put{w:World}{g i:Nat}{X:List zy}{x:zy}(h:qx w g X)(hi:i<X.length)(hx:zd zi 2 w w.heap.size x.A x.c x.stack):qx (qR w g i x) g (X.set i x):=by
 have hz:(qR w g i x).heap.size=w.heap.size:=by simp[qR]
 have hap:∀{A:Option Addr} {c:Nat} {L:List (Int×Int)},zd zi 2 w w.heap.size A c L→zd zi 2 (qR w g i x) (qR w g i x).heap.size A c L:=fun {A c L} hs=>
  Yk hs (by rw[hz];exact zn _) (QT w g i x) (fun j hj=>h.ty_apart hs hj)
 refine⟨?_,fun y hy=> ?_⟩
 ·rcases qbh X i x with e|e
  ·rw[e];exact(h.blk.set _ _).set _ _
  ·omega
 ·rcases List.mem_or_eq_of_mem_set hy with q|q
  ·exact hap (h.row y q)
  ·rw[q];exact hap hx
def QN(v:Value)(A:Option Addr):Prop:=∀g,v.ownBlock=some g→∀ad,A=some ad→g≠ad.block
theorem q41{w w3:World}{o:Obj}{B:Nat}{A:Option Addr}{xs:List Value}{v:Value}(h:zz w B A xs)(hB:B≤w.heap.size)(hg:(w.alloc o).grownBy w3 v.ownBlock)(ha:QN v A):zz w3 B A xs:=fun j u hu=>by
 obtain⟨ad,e,hb,hc⟩:=h j u hu;refine⟨ad,e,hb,?_⟩;have hk:(ad.add j).block=ad.block:=by rw[zt]
 have h1:w3.cell? (ad.add j)=(w.alloc o).cell? (ad.add j):=World.cell?_of_block (hg.block _ (by rw[hk];simp;omega) (fun e'=>ha _ e'.symm ad e hk));rw[h1];exact(((zb w.heap.size w).alloc (zn _) o).cell (by rw[hk];omega)).trans hc
theorem qfx{w:World}{A:Option Addr}{B N e n c:Nat}{xs:List Value}(ho:w.ownsRow B e 1 (.slice A n c) n xs)(h:N<B):QN (.slice (some ⟨N,0,none⟩) 0 0) A:=fun g hg ad e=>by
 have h1:N=g:=by simpa[Value.ownBlock]using hg
 have h2:=(ho.lt ad.block (by rw[e];rfl)).1;omega
theorem q1l{v:Value}{A:Option Addr}{B g9 H n c:Nat}(h:QN v A)(hlt:∀ad,A=some ad→ad.block<B)(hor:v.ownBlock=some g9∨g9=H)(hH:B≤H):QN (.slice (some ⟨g9,0,none⟩) n c) A:=fun g hg ad e=>by
 have:g9=g:=by simpa[Value.ownBlock]using hg
 subst this;rcases hor with q|q
 ·exact h _ q ad e
 ·have:=hlt ad e;omega
set_option maxHeartbeats 3200000 in
theorem qdr(m:za)(a b:Int)(h:zl)(w:World)(H:zp w w.heap.size h m)(hn:m.classes.length≤1000):
  Calls Tryz.prog 29 #[zr h m,zF 32 a b] w (vO (qj m 32 a b) w):=by
 obtain⟨L,hL⟩:∃L,Ze m.classes a=L:=⟨_,rfl⟩
 rw[show qj m 32 a b=vN m b (Ze m.classes a)from rfl,hL];have hLl:L.length≤1000:=by rw[←hL];exact Nat.le_trans (YS _ _ _) hn
 have HLB:=zH hL;clear hL;obtain⟨i0,hi,hz0,hz1,hz2⟩:=info_parts kp;obtain⟨hq,hc,hb,hz⟩:=Va h m 32 a b w;have HW:=zH hb;have HC:=zH hc;have HZ:=zH hz;have HBX:=zH hq;have HIM:=zH (H.now hb);have hn1:=hn;have hkc:=H.classes.cap;clear hb hq hc hz H;go_enter Tryz.func29,Tryz.ntmps29;go_upto_region 1 with fail
 generalize(w.alloc (zq h m)).alloc (.cells #[.int .i64 32,.int .i64 a,.int .i64 b] 45)=w1 at*
 go_upto_region 2 with fail
 have HO:=zH (JB w1 3);have HX:=zH ((zb w1.heap.size w1).alloc (zn _) (.cells #[] 3));have HZ12:Hid (w1.heap.size<(w1.alloc (.cells #[] 3)).heap.size):=zH (by simp);generalize w1.alloc (.cells #[] 3)=w2 at*
 have hlt:w.heap.size+1<w1.heap.size:=by have:=HZ.out;omega
 have HL:=zH hlt;have HLB0:Hid (w.heap.size<w1.heap.size):=zH (by omega);clear hlt;have j0:=(HC.out.keep HX.out HL.out) 0 _ rfl;have j1:=(HC.out.keep HX.out HL.out) 1 _ rfl;obtain⟨q0,q1,q2,q3,q4,q5,q6⟩:=HBX.out.keep HX.out HLB0.out;have hsz:=HX.out.size;go_wp2_with(first|(go_at_call 55;(with_reducible refine(qkx HIM HX HLB hn1).mono ?_);rintro e w5 ⟨v5,rfl,ho,hb⟩;have HO:=zH (qG HO.out hb (qi HO.out));have HX:=zj HX hb;obtain⟨A5,c5,rfl,hl5,g1,g2⟩:=kM ho;have HL5:=zH hl5;have HAP:=zH (qfx ho HZ12.out);clear hb ho hl5))
 go_loopw [5,7] (fun v i wr=>∃k:Nat,k≤L.length∧i= .int .i64 k∧Hid (wr.ownsRow w1.heap.size 3 1 v (vN m b (L.take k)).length ((vN m b (L.take k)).map (Value.int .i64)))∧Hid (Below w1.heap.size w1 wr)∧Hid (zz wr w5.heap.size A5 (L.map (Value.int .i64)))∧Hid (QN v A5)∧Hid (w5.heap.size≤wr.heap.size)) (fun _ i _=>L.length - (intOf i).toNat)
 case atStart=>exact⟨0,Nat.zero_le _,rfl,HO,HX,HL5,HAP,zH (zn _)⟩
 case round=>
  clear HO HX HL5 HAP j0 j1 q0 q1 q2 q3 q4 q5 q6;obtain⟨k,hk,rfl,HO,HX,HL5,HAP,HSZ⟩:=hrel;by_cases hlt:k<L.length
  ·obtain⟨ad,rfl,hab,hc0⟩:=HL5.out k (.int .i64 L[k]) (by rw[List.getElem?_map,List.getElem?_eq_getElem hlt];rfl);have hs:=q72 (m:=m) (b:=b) hlt;have hyl:(vN m b (L.take k)).length≤1000:=Nat.le_trans (q3h _ _ _) (by rw[List.length_take];omega);obtain⟨q,hq⟩:∃q,L[k]=q:=⟨_,rfl⟩
   rw[hq]at hs hc0;have HPB:Hid ((ad.add k).block<wr.heap.size):=zH (by rw[zt];exact Nat.lt_of_lt_of_le hab HSZ.out);have p:=hc0;have HLT5:Hid (∀ad',some ad=some ad'→ad'.block<w5.heap.size):=zH (fun ad' e=>by injection e with e;subst e;exact hab);obtain⟨o,ho⟩:∃o,vb m.classes q b=o:=⟨_,rfl⟩
   rw[ho]at hs;have HSV:=zH ho;have HS:=zH hs;clear hs ho hq hab hc0;generalize vN m b (L.take k)=Y at*
   obtain⟨q0,q1,q2,q3,q4,q5,q6⟩:=HBX.out.keep HX.out HLB0.out;have j2:=(HC.out.keep HX.out HL.out) 2 _ rfl;have HXd:Hid (Below w1.heap.size w1 wr.drew):=zH HX.out.drew;have HBr:Hid (Below wr.heap.size wr wr.drew):=zH (zb wr.heap.size wr).drew;have HL5d:Hid (zz wr.drew w5.heap.size (some ad) (L.map (Value.int .i64))):=zH (HL5.out.below_to HBr.out HSZ.out);have HOd:Hid (wr.drew.ownsRow w1.heap.size 3 1 u5 Y.length (Y.map (Value.int .i64))):=zH (qG HO.out (zb wr.heap.size wr).drew (qi HO.out));cases o with
   |none=>
    go_wp2_with fail
    go_region_held3 (fun w'=>w'.cell? ⟨w.heap.size,0,none⟩=some (.slice h.A0 m.classes.length h.c0)∧w'.cell? ⟨w.heap.size,1,none⟩=some (.slice h.A1 m.statics.length h.c1)∧w'.cell? ⟨w.heap.size,2,none⟩=some (.slice h.A2 m.ints.length h.c2)∧w'.cell? ⟨w.heap.size,3,none⟩=some (.slice h.A3 m.methods.length h.c3)∧w'.cell? ⟨w.heap.size,4,none⟩=some (.slice h.A4 m.entries.length h.c4)∧w'.cell? ⟨w.heap.size,5,none⟩=some (.int .i64 m.stack)∧w'.cell? ⟨w.heap.size,6,none⟩=some (.int .i64 m.heap)∧w'.cell? ⟨w.heap.size+1,2,none⟩=some (.int .i64 b)∧w'.cell? (ad.add k)=some (.int .i64 q)) (first|exact⟨q0,q1,q2,q3,q4,q5,q6,j2,p⟩) (first|(go_at_call 56;(with_reducible refine(q5m HIM HXd HSV).mono ?_);rintro e w2 ⟨rfl,hb⟩;have HX2:=zj HXd hb;have HL52:=zH ((HL5d.out.below_to hb HSZ.out):zz w2 w5.heap.size (some ad) (L.map (Value.int .i64)));have HSZ2:Hid (w5.heap.size≤w2.heap.size):=zH (Nat.le_trans HSZ.out hb.size);have HO2:=zH (qG HOd.out hb (qi HOd.out));have hsz2:=HX2.out.size;obtain⟨q0,q1,q2,q3,q4,q5,q6⟩:=HBX.out.keep HX2.out HLB0.out;have j2:=(HC.out.keep HX2.out HL.out) 2 _ rfl;have p:=(hb.cell (p:=ad.add k) HPB.out).trans p;clear hb))
    go_wp2_with fail
    go_roundw;case rel=>exact⟨k+1,by omega,by go_num,zH (by rw[HS.out,Option.toList_none,List.append_nil];exact HO2.out),HX2,HL52,HAP,HSZ2⟩
    case measure=>simp[intOf];omega
   |some g=>
    go_wp2_with fail
    go_region_held3 (fun w'=>w'.cell? ⟨w.heap.size,0,none⟩=some (.slice h.A0 m.classes.length h.c0)∧w'.cell? ⟨w.heap.size,1,none⟩=some (.slice h.A1 m.statics.length h.c1)∧w'.cell? ⟨w.heap.size,2,none⟩=some (.slice h.A2 m.ints.length h.c2)∧w'.cell? ⟨w.heap.size,3,none⟩=some (.slice h.A3 m.methods.length h.c3)∧w'.cell? ⟨w.heap.size,4,none⟩=some (.slice h.A4 m.entries.length h.c4)∧w'.cell? ⟨w.heap.size,5,none⟩=some (.int .i64 m.stack)∧w'.cell? ⟨w.heap.size,6,none⟩=some (.int .i64 m.heap)∧w'.cell? ⟨w.heap.size+1,2,none⟩=some (.int .i64 b)∧w'.cell? (ad.add k)=some (.int .i64 q)) (first|exact⟨q0,q1,q2,q3,q4,q5,q6,j2,p⟩) (first|(go_at_call 56;(with_reducible refine(q5m HIM HXd HSV).mono ?_);rintro e w2 ⟨rfl,hb⟩;have HX2:=zj HXd hb;have HL52:=zH ((HL5d.out.below_to hb HSZ.out):zz w2 w5.heap.size (some ad) (L.map (Value.int .i64)));have HSZ2:Hid (w5.heap.size≤w2.heap.size):=zH (Nat.le_trans HSZ.out hb.size);have HO2:=zH (qG HOd.out hb (qi HOd.out));have hsz2:=HX2.out.size;obtain⟨q0,q1,q2,q3,q4,q5,q6⟩:=HBX.out.keep HX2.out HLB0.out;have j2:=(HC.out.keep HX2.out HL.out) 2 _ rfl;have p:=(hb.cell (p:=ad.add k) HPB.out).trans p;clear hb))
    go_wp2_with(first|(at_builtin;refine wpList_append_lies _ rfl _ _ 26 rfl w1.heap.size 3 i0 (.int .i64 0) 1 8 Tryz.underlying26 hi hz0 hz1 hz2 rfl (by decide) _ _ _ rfl (HO2.out.alloc _) ⟨_,0,none⟩ 1 1 [.int .i64 g] rfl rfl (Vu _ _) (Vo _) (by decide) (by unfold maxLen;omega) (by omega) (by simp;omega) _ rfl ?_;intro g9 c9 w3 hown' hgrow hor hlt9;have hR:=Jt HO2.out hsz2 HX2.out hown' hgrow;have HO3:=zH hR.1;have HX3:=zH hR.2;have HL53:=zH (q41 HL52.out HSZ2.out hgrow HAP.out);have HAP3:Hid (QN (.slice (some ⟨g9,0,none⟩) (Y.length+1) c9) (some ad)):=zH (q1l HAP.out HLT5.out hor (by have:=HSZ2.out;simp;omega));have HSZ3:Hid (w5.heap.size≤w3.heap.size):=zH (by have h1:=hgrow.size;have h2:=HSZ2.out;simp at h1;omega);clear hown' hgrow hR hor hlt9))
    go_roundw;case rel=>exact⟨k+1,by omega,by go_num,zH (by rw[HS.out];exact HO3.out),HX3,HL53,HAP3,HSZ3⟩
    case measure=>simp[intOf];omega
  ·obtain rfl:k=L.length:=by omega
   go_wp2_with fail
   go_ret;rw[List.take_length]at HO;exact⟨_,rfl,jI HO.out HW.out.size,HW.out.trans (HX.out.mono HW.out.size)⟩
theorem qe8(m:za)(op a b:Int)(h:zl)(w:World)(H:zp w w.heap.size h m)(hn:m.classes.length≤1000):
  Calls Tryz.prog 29 #[zr h m,zF op a b] w (vO (qj m op a b) w):=by
 by_cases h31:op=31
 ·subst h31;exact qdt m a b h w
 by_cases h32:op=32
 ·subst h32;exact qdr m a b h w H hn
 exact qds m op a b h31 h32 h w
theorem q3j{m:za}{op a b:Int}{h:zl}{w0 w:World}{L:List Int}(HI:Hid (zp w0 w0.heap.size h m))(HX:Hid (Below w0.heap.size w0 w))(HN:Hid (m.classes.length≤1000))(HL:Hid (qj m op a b=L)):
  Calls Tryz.prog 29 #[zr h m,zF op a b] w (vO L w):=by
 have H:=qe8 m op a b h w (HI.out.now HX.out) HN.out;rw[HL.out]at H;exact H
def ZU(m:za)(x:ze)(g:Int):Bool:= !(x.code.all fun i=> !qc (qj m i.1 i.2.1 i.2.2) g)
theorem q3e(m:za)(op a b:Int)(hn:m.classes.length≤1000):(qj m op a b).length≤1000:=by
 unfold qj;by_cases h1:op=31
 ·rw[if_pos h1];exact(show 1≤1000 by decide)
 rw[if_neg h1];by_cases h2:op=32
 ·rw[if_pos h2];exact Nat.le_trans (q3h _ _ _) (Nat.le_trans (YS _ _ _) hn)
 ·rw[if_neg h2];exact Nat.zero_le _
set_option maxHeartbeats 3200000 in
theorem qgw(m:za)(x:ze)(f:Nat)(g:Int)(h:zl)(w:World)(H:zp w w.heap.size h m)(hg:m.methods[f]? =some x)(hn:m.classes.length≤1000)(ha:x.code.length≤1048576):
  Calls Tryz.prog 42 #[zr h m,.int .i64 f,.int .i64 g] w fun e w'=>e= .returned (.bool (ZU m x g))∧Below w.heap.size w w':=by
 have hk:f<m.methods.length:=(List.getElem?_eq_some_iff.mp hg).1;have hx:m.methods[f]=x:=(List.getElem?_eq_some_iff.mp hg).2;have hle:=H.methods.le;have hcap:=H.methods.cap;obtain⟨ad,hx',eA,hab,hin,hc⟩:=jB H hk;rw[hx]at hin hc;obtain⟨A0,A1,A2,A3,A4,k0,k1,k2,k3,k4⟩:=h;dsimp only at eA hcap hle;subst eA;have HN:=zH hn;have HW:=zH ((zb w.heap.size w).alloc (zn _) (zq ⟨A0,A1,A2,some ad,A4,k0,k1,k2,k3,k4⟩ m));have HIM:=zH (H.now HW.out);have HBX:=zH (qf w ⟨A0,A1,A2,some ad,A4,k0,k1,k2,k3,k4⟩ m);have HZ:Hid (w.heap.size<(w.alloc (zq ⟨A0,A1,A2,some ad,A4,k0,k1,k2,k3,k4⟩ m)).heap.size):=zH (by simp);have HAB:Hid ((ad.add (f*8)).block<(w.alloc (zq ⟨A0,A1,A2,some ad,A4,k0,k1,k2,k3,k4⟩ m)).heap.size):=zH (by rw[zt];simp;omega);have HMC:=zH (hc.keep HW.out (by rw[zt];exact hab));have HIN:=zH (hin.now HW.out);have ccap:=hin.code.cap;have cle:=hin.code.le;have HCE:=zH (show ZU m x g= !(x.code.all fun i=> !qc (qj m i.1 i.2.1 i.2.2) g)from rfl);clear H hg hin hc hn hab hx;go_enter Tryz.func42,Tryz.ntmps42;go_upto_region 1 with fail
 generalize w.alloc (zq ⟨A0,A1,A2,some ad,A4,k0,k1,k2,k3,k4⟩ m)=w1 at*
 go_wp2_with fail
 go_loopw [7] (fun i wr=>∃k:Nat,k≤x.code.length∧i= .int .i64 k∧Hid (∀i ∈x.code.take k,(!qc (qj m i.1 i.2.1 i.2.2) g)=true)∧Hid (Below w1.heap.size w1 wr)) (fun i _=>x.code.length - (intOf i).toNat)
 case atStart=>exact⟨0,Nat.zero_le _,rfl,zH (by simp),zH (zb _ _)⟩
 case round=>
  obtain⟨k,hkl,rfl,HNO,HX⟩:=hrel;obtain⟨q0,q1,q2,q3,q4,q5,q6⟩:=HBX.out.keep HX.out HZ.out;dsimp only at q0 q1 q2 q3 q4 q5 q6;have c4:=(HMC.out.keep HX.out HAB.out).c4;by_cases hlt:k<x.code.length
  ·obtain⟨ac,eC,hac,i0,i1,i2⟩:=HIN.out.code.row.at_ hlt;have HBA:=zH (fun q=>Zx (f:=fun i:Int×Int×Int=> !qc (qj m i.1 i.2.1 i.2.2) g) hlt q);have HYE:=zH (fun q=>Zc (f:=fun i:Int×Int×Int=> !qc (qj m i.1 i.2.1 i.2.2) g) hlt HNO.out q);generalize x.code[k]=ins at*
   obtain⟨op,a,b⟩:=ins;dsimp only at i0 i1 i2 HBA HYE;rw[eC]at c4;have HR:Hid (∀W,Below w1.heap.size w1 W→W.cell? (ac.add (k*3))=some (.int .i64 op)∧W.cell? (zc (ac.add (k*3)) 1)=some (.int .i64 a)∧W.cell? (zc (ac.add (k*3)) 2)=some (.int .i64 b)):=zH (fun W hW=>⟨(hW.cell (p:=ac.add (k*3)) (by rw[zt];exact hac)).trans i0,(hW.cell (p:=zc (ac.add (k*3)) 1) (by show(ac.add (k*3)).block<_;rw[zt];exact hac)).trans i1,(hW.cell (p:=zc (ac.add (k*3)) 2) (by show(ac.add (k*3)).block<_;rw[zt];exact hac)).trans i2⟩);have HC4:Hid (∀W,Below w1.heap.size w1 W→W.cell? ⟨(ad.add (f*8)).block,(ad.add (f*8)).off+4,none⟩=some (.slice (some ac) x.code.length hx'.k4)):=zH (fun W hW=>by have q:=(HMC.out.keep hW HAB.out).c4;rw[eC]at q;exact q);obtain⟨j0,j1,j2⟩:=HR.out _ HX.out;clear i0 i1 i2 eC;obtain⟨L,hL⟩:∃L,qj m op a b=L:=⟨_,rfl⟩
   have hLl:L.length≤9223372036854775807:=by have:=q3e m op a b HN.out;rw[hL]at this;omega
   have HL:=zH hL;rw[hL]at HBA HYE;clear hL;have HXd:=zH HX.out.drew;obtain⟨r,hr⟩:∃r,qc L g=r:=⟨_,rfl⟩
   have HIR:=zH hr;cases r
   ·have HR2:=zH (HYE.out (by rw[hr];rfl));clear hr;go_wp2_with fail
    go_region_held3 (fun w'=>w'.cell? ⟨w.heap.size,0,none⟩=some (.slice A0 m.classes.length k0)∧w'.cell? ⟨w.heap.size,1,none⟩=some (.slice A1 m.statics.length k1)∧w'.cell? ⟨w.heap.size,2,none⟩=some (.slice A2 m.ints.length k2)∧w'.cell? ⟨w.heap.size,3,none⟩=some (.slice (some ad) m.methods.length k3)∧w'.cell? ⟨w.heap.size,4,none⟩=some (.slice A4 m.entries.length k4)∧w'.cell? ⟨w.heap.size,5,none⟩=some (.int .i64 m.stack)∧w'.cell? ⟨w.heap.size,6,none⟩=some (.int .i64 m.heap)∧w'.cell? ⟨(ad.add (f*8)).block,(ad.add (f*8)).off+4,none⟩=some (.slice (some ac) x.code.length hx'.k4)∧w'.cell? (ac.add (k*3))=some (.int .i64 op)∧w'.cell? (zc (ac.add (k*3)) 1)=some (.int .i64 a)∧w'.cell? (zc (ac.add (k*3)) 2)=some (.int .i64 b)) (first|exact⟨q0,q1,q2,q3,q4,q5,q6,c4,j0,j1,j2⟩) (first|(go_at_call 29;(with_reducible refine(q3j HIM HXd HN HL).mono ?_);rintro e w2 ⟨v2,rfl,ho,hb⟩;have HX2:=zj HXd hb;obtain⟨A9,c9,rfl,hl9,_,_⟩:=kM ho;have HL9:=zH hl9;obtain⟨q0,q1,q2,q3,q4,q5,q6⟩:=HBX.out.keep HX2.out HZ.out;dsimp only at q0 q1 q2 q3 q4 q5 q6;have c4:=HC4.out _ HX2.out;obtain⟨j0,j1,j2⟩:=HR.out _ HX2.out;clear ho hb hl9)|(go_at_call 61;(with_reducible refine(QV _ _ _ _ _ _ hLl HL9.out).mono ?_);rintro e w' ⟨he,rfl⟩;rw[HIR.out]at he;subst he))
    go_wp2_with fail
    go_roundw;case rel=>exact⟨k+1,by omega,by go_num,HR2,HX2⟩
    case measure=>simp[intOf];omega
   ·have HE:=zH (HCE.out.trans (by rw[HBA.out (by rw[hr];rfl)];rfl:_=true));clear hr;go_wp2_with fail
    go_region_held3 (fun w'=>w'.cell? ⟨w.heap.size,0,none⟩=some (.slice A0 m.classes.length k0)∧w'.cell? ⟨w.heap.size,1,none⟩=some (.slice A1 m.statics.length k1)∧w'.cell? ⟨w.heap.size,2,none⟩=some (.slice A2 m.ints.length k2)∧w'.cell? ⟨w.heap.size,3,none⟩=some (.slice (some ad) m.methods.length k3)∧w'.cell? ⟨w.heap.size,4,none⟩=some (.slice A4 m.entries.length k4)∧w'.cell? ⟨w.heap.size,5,none⟩=some (.int .i64 m.stack)∧w'.cell? ⟨w.heap.size,6,none⟩=some (.int .i64 m.heap)∧w'.cell? ⟨(ad.add (f*8)).block,(ad.add (f*8)).off+4,none⟩=some (.slice (some ac) x.code.length hx'.k4)∧w'.cell? (ac.add (k*3))=some (.int .i64 op)∧w'.cell? (zc (ac.add (k*3)) 1)=some (.int .i64 a)∧w'.cell? (zc (ac.add (k*3)) 2)=some (.int .i64 b)) (first|exact⟨q0,q1,q2,q3,q4,q5,q6,c4,j0,j1,j2⟩) (first|(go_at_call 29;(with_reducible refine(q3j HIM HXd HN HL).mono ?_);rintro e w2 ⟨v2,rfl,ho,hb⟩;have HX2:=zj HXd hb;obtain⟨A9,c9,rfl,hl9,_,_⟩:=kM ho;have HL9:=zH hl9;obtain⟨q0,q1,q2,q3,q4,q5,q6⟩:=HBX.out.keep HX2.out HZ.out;dsimp only at q0 q1 q2 q3 q4 q5 q6;have c4:=HC4.out _ HX2.out;obtain⟨j0,j1,j2⟩:=HR.out _ HX2.out;clear ho hb hl9)|(go_at_call 61;(with_reducible refine(QV _ _ _ _ _ _ hLl HL9.out).mono ?_);rintro e w' ⟨he,rfl⟩;rw[HIR.out]at he;subst he))
    go_wp2_with fail
    go_ret;exact⟨by rw[HE.out];rfl,HW.out.trans (HX2.out.mono HW.out.size)⟩
  ·obtain rfl:k=x.code.length:=by omega
   have HE:=zH (HCE.out.trans (by rw[ZO HNO.out (zn _)];rfl:_=false));go_wp2_with fail
   go_ret;exact⟨by rw[HE.out];rfl,HW.out.trans (HX.out.mono HW.out.size)⟩
theorem q53:(Tryz.prog.info? 26).map (fun i=>(i.zero,i.size,i.bytes))=some (some (.slice none 0 0),1,24):=by kernel_rfl
theorem qa6{m:za}{x:ze}{f:Nat}{g:Int}{h:zl}{w0 w:World}{r:Bool}(HI:Hid (zp w0 w0.heap.size h m))(HX:Hid (Below w0.heap.size w0 w))(HG:Hid (m.methods[f]? =some x))(hn:m.classes.length≤1000)(ha:x.code.length≤1048576)(HR:Hid (ZU m x g=r)):
  Calls Tryz.prog 42 #[zr h m,.int .i64 f,.int .i64 g] w fun e w'=>e= .returned (.bool r)∧Below w.heap.size w w':=by
 have H:=qgw m x f g h w (HI.out.now HX.out) HG.out hn ha;rw[HR.out]at H;exact H
def jV(m:za)(x:ze)(n:Nat):List Int:=((List.range n).filter (fun g:Nat=>ZU m x (g:Int))).map (fun g:Nat=>(g:Int))
theorem qkp{m:za}{x:ze}{n:Nat}(h:ZU m x (n:Int)=true):jV m x (n+1)=jV m x n++[(n:Int)]:=by
 unfold jV;rw[List.range_succ,List.filter_append,List.map_append];simp[h]
theorem qnw{m:za}{x:ze}{n:Nat}(h:ZU m x (n:Int)=false):jV m x (n+1)=jV m x n:=by
 unfold jV;rw[List.range_succ,List.filter_append,List.map_append];simp[h]
theorem qkq(m:za)(x:ze)(n:Nat):(jV m x n).length≤n:=by
 unfold jV;rw[List.length_map];exact Nat.le_trans (List.length_filter_le _ _) (by rw[List.length_range];exact zn _)
def jm(m:za):List (List Int):=m.methods.map fun x=>jV m x m.methods.length
def VB(w:World)(v:Value)(A:Option Addr)(c:Nat)(L:List Int):Prop:=zd zo 1 w w.heap.size A c L∧QN v A∧∀ad,A=some ad→ad.block<w.heap.size
def Qn(w:World)(v:Value)(xs:List Value)(EL:List (List Int)):Prop:=
 xs.length=EL.length∧∀(i:Nat) (L:List Int),EL[i]? =some L→∃A c,xs[i]? =some (Value.slice A L.length c)∧VB w v A c L
theorem qev{w w':World}{B C:Nat}{A:Option Addr}{c:Nat}{L:List Int}(h:zd zo 1 w B A c L)(hC:B≤C)(hk:∀ad,A=some ad→∀q:Addr,q.block=ad.block→w'.cell? q=w.cell? q):zd zo 1 w' C A c L:=
 ⟨h.le,h.cap,fun i x hi=>by
  obtain⟨ad,e,hb,hc⟩:=h.row i x hi;exact⟨ad,e,Nat.lt_of_lt_of_le hb hC,(hk ad e _ (zt _ _)).trans hc⟩⟩
theorem Qn.nil(w:World)(v:Value):Qn w v [] []:=⟨rfl,fun i L hi=>by simp at hi⟩
theorem Qn.below{w w':World}{v:Value}{xs:List Value}{EL:List (List Int)}(h:Qn w v xs EL)(hb:Below w.heap.size w w'):Qn w' v xs EL:=
 ⟨h.1,fun i L hi=>by
  obtain⟨A,c,e,hs,ha,hl⟩:=h.2 i L hi;exact⟨A,c,e,(hs.below_to zo.keeps hb (zn _)).keep' zo.keeps hb.size (fun _ _=>rfl),ha,fun ad e=>Nat.lt_of_lt_of_le (hl ad e) hb.size⟩⟩
theorem VB.grown{w w3:World}{o:Obj}{v:Value}{L:List Int}{A:Option Addr}{c g9 n k:Nat}(h:VB w v A c L)(hg:(w.alloc o).grownBy w3 v.ownBlock)(hor:v.ownBlock=some g9∨g9=(w.alloc o).heap.size):
  VB w3 (.slice (some ⟨g9,0,none⟩) n k) A c L:=by
 obtain⟨hs,ha,hl⟩:=h;have hz:w.heap.size≤w3.heap.size:=Nat.le_trans (by simp) hg.size;refine⟨qev hs hz fun ad e q hq=> ?_,q1l ha hl hor (by simp),fun ad e=>Nat.lt_of_lt_of_le (hl ad e) hz⟩;have hb:=hl ad e;have h1:w3.cell? q=(w.alloc o).cell? q:=World.cell?_of_block (hg.block _ (by rw[hq];simp;omega) (fun e'=>ha _ e'.symm ad e hq));rw[h1];exact((zb w.heap.size w).alloc (zn _) o).cell (by rw[hq];exact hb)
theorem Qn.snoc{w w3:World}{o:Obj}{v:Value}{xs:List Value}{EL:List (List Int)}{L:List Int}{A:Option Addr}{c g9 n k:Nat}(h:Qn w v xs EL)(hs:VB w v A c L)
  (hg:(w.alloc o).grownBy w3 v.ownBlock) (hor:v.ownBlock=some g9∨g9=(w.alloc o).heap.size):
  Qn w3 (.slice (some ⟨g9,0,none⟩) n k) (xs++[.slice A L.length c]) (EL++[L]):=by
 refine⟨by rw[List.length_append,List.length_append,h.1];rfl,fun i M hi=> ?_⟩;rcases Nat.lt_or_ge i EL.length with q|q
 ·rw[List.getElem?_append_left q]at hi;obtain⟨A',c',e,hs'⟩:=h.2 i M hi;exact⟨A',c',by rw[List.getElem?_append_left (by rw[h.1];exact q)];exact e,hs'.grown hg hor⟩
 ·rw[List.getElem?_append_right q]at hi;have hiz:i - EL.length=0:=by
   rcases Nat.eq_zero_or_pos (i - EL.length)with z|z
   ·exact z
   ·rw[List.getElem?_eq_none (by simp;omega)]at hi;cases hi
  rw[hiz]at hi;simp at hi;subst hi;exact⟨A,c,by rw[List.getElem?_append_right (by rw[h.1];exact q),h.1,hiz];rfl,hs.grown hg hor⟩
def RowsIs(EL:List (List Int))(w:World)(e:Ending)(w':World):Prop:=∃A c,e= .returned (.slice A EL.length c)∧zd (qb zo 1) 1 w' w'.heap.size A c EL∧Below w.heap.size w w'
theorem qp6{w:World}{B e n:Nat}{v:Value}{xs:List Value}{EL:List (List Int)}(ho:w.ownsRow B e 1 v n xs)(hn:n=EL.length)(h:Qn w v xs EL):∃A c,v= .slice A EL.length c∧zd (qb zo 1) 1 w w.heap.size A c EL:=by
 subst hn;rcases jA ho with⟨rfl,hz⟩|⟨g,c,rfl,h1,h2⟩
 ·have:EL=[]:=List.eq_nil_of_length_eq_zero hz;subst this;exact⟨none,0,rfl,⟨zn _,by omega,qt.nil⟩⟩
 ·obtain⟨hb,hc⟩:=kb ho;refine⟨_,c,rfl,h1,h2,fun i L hi=> ?_⟩;obtain⟨A,k,e1,hs,_,_⟩:=h.2 i L hi;obtain⟨c0,hg⟩:=hc i _ e1;refine⟨_,rfl,hg,A,k,?_,hs⟩;have ea:(Addr.add ⟨g,0,none⟩ (i*1))=⟨g,i,none⟩:=by
   unfold Addr.add;split
   ·rename_i h0;simp at h0;rw[h0]
   ·simp
  rw[ea];exact c0
set_option maxHeartbeats 3200000 in
theorem qf4(m:za)(h:zl)(w:World)(H:zp w w.heap.size h m)(hn:m.classes.length≤1000)(hml:m.methods.length≤1000)(hc:∀x ∈m.methods,x.code.length≤1048576):
  Calls Tryz.prog 21 #[zr h m] w (RowsIs (jm m) w):=by
 have hrow0:∀n v,jV m v n=jV m v n:=fun _ _=>rfl;clear hrow0;obtain⟨i0,hi,hz0,hz1,hz2⟩:=jg q53;obtain⟨i1,hi1,hz01,hz11,hz21⟩:=jg kp;have HW:=zH ((zb w.heap.size w).alloc (zn _) (zq h m));have HI:=zH (H.now HW.out);have HBX:=zH (qf w h m);have HZ:Hid (w.heap.size<(w.alloc (zq h m)).heap.size):=zH (by simp);have HCO:=zH hc;clear H hc;go_enter Tryz.func21,Tryz.ntmps21;go_upto_region 1 with fail
 generalize w.alloc (zq h m)=w1 at*
 go_wp2_with fail
 go_loopw [3,4] (fun v i wr=>∃(k:Nat) (xs:List Value),k≤m.methods.length∧i= .int .i64 k∧Hid (wr.ownsRow w1.heap.size 26 1 v k xs)∧Hid (Below w1.heap.size w1 wr)∧Hid (Qn wr v xs ((m.methods.take k).map fun x=>jV m x m.methods.length))) (fun _ i _=>m.methods.length - (intOf i).toNat)
 case atStart=>exact⟨0,[],by omega,rfl,zH (JB w1 _),zH ((zb _ _).alloc (zn _) _),zH (Qn.nil _ _)⟩
 case round=>
  obtain⟨k,xs,hk,rfl,HO,HX,HE⟩:=hrel;obtain⟨q0,q1,q2,q3,q4,q5,q6⟩:=HBX.out.keep HX.out HZ.out;have hsz:=HX.out.size;by_cases hlt:k<m.methods.length
  ·obtain⟨x,hx⟩:∃x,m.methods[k]? =some x:=⟨_,List.getElem?_eq_getElem hlt⟩
   have HG:=zH hx;have hxc:=HCO.out x (List.mem_of_getElem? hx);have HTK:Hid ((m.methods.take (k+1)).map (fun x=>jV m x m.methods.length)=(m.methods.take k).map (fun x=>jV m x m.methods.length)++[jV m x m.methods.length]):=zH (by rw[List.take_add_one,hx,List.map_append];rfl);clear hx;go_wp2_with fail
   go_loopw [5,6] (fun l j wi=>∃(g:Nat) (ys:List Int),g≤m.methods.length∧j= .int .i64 g∧Hid (ys=jV m x g)∧ys.length≤g∧Hid (wi.ownsRow wr.heap.size 3 1 l ys.length (ys.map (Value.int .i64)))∧Hid (Below wr.heap.size wr wi)) (fun _ j _=>m.methods.length - (intOf j).toNat)
   case atStart=>exact⟨0,[],by omega,rfl,zH rfl,zn _,zH (JB wr _),zH ((zb _ _).alloc (zn _) _)⟩
   case round=>
    clear q0 q1 q2 q3 q4 q5 q6;obtain⟨g,ys,hg,rfl,HYS,hyl,HOi,HXi⟩:=hrel;have HX2:=zH (HX.out.trans (HXi.out.mono hsz));obtain⟨q0,q1,q2,q3,q4,q5,q6⟩:=HBX.out.keep HX2.out HZ.out;by_cases hgl:g<m.methods.length
    ·obtain⟨r,hr⟩:∃r,ZU m x (g:Int)=r:=⟨_,rfl⟩
     have HR:=zH hr;have HYN:Hid (r=false→ys=jV m x (g+1)):=zH (fun q=>by rw[qnw (by rw[hr,q])];exact HYS.out);have HYY:Hid (r=true→ys++[(g:Int)]=jV m x (g+1)):=zH (fun q=>by rw[qkp (by rw[hr,q]),←HYS.out]);clear hr;cases r
     ·go_wp2_with(go_at_call 42;(with_reducible refine(qa6 HI HX2 HG hn hxc HR).mono ?_);rintro e w4 ⟨rfl,hb⟩;have HO4:=zH (qG HOi.out hb (qi HOi.out));have HX4:=zj HXi hb;clear hb)
      go_roundw;case rel=>exact⟨g+1,ys,by omega,by go_num,zH (HYN.out (by simp)),by omega,HO4,HX4⟩
      case measure=>simp[intOf];omega
     ·go_wp2_with(first
       |(go_at_call 42;(with_reducible refine(qa6 HI HX2 HG hn hxc HR).mono ?_);rintro e w4 ⟨rfl,hb⟩;have HO4:=zH (qG HOi.out hb (qi HOi.out));have HX4:=zj HXi hb;have hsz4:=HX4.out.size;clear hb)
       |(at_builtin;refine ja rfl _ _ 26 rfl _ 3 i1 (.int .i64 0) 1 8 Tryz.underlying26 hi1 hz01 hz11 hz21 rfl (by decide) _ ys.length (ys.map (Value.int .i64)) rfl (HO4.out.alloc _) (some ⟨w4.heap.size,0,none⟩) 1 1 _ [.int .i64 (g:Int)] rfl rfl (q2n w4 _ _) (Ve rfl) (by unfold maxLen;omega) (by omega) (by simp;omega) ?_;intro v6 w6 hown hgrow;have HX6:=zH (qA (HX4.out.alloc hsz4 _) (HO4.out.alloc _) (by simp;omega) hgrow);have HO6:=zH hown;clear hown hgrow))
      go_roundw;case rel=>exact⟨g+1,ys++[(g:Int)],by omega,by go_num,zH (HYY.out (by simp)),by simp;omega,zH (by simpa using HO6.out),HX6⟩
      case measure=>simp[intOf];omega
    ·obtain⟨Al,cl,rfl,hll,hl1,hl2⟩:=kM HOi.out;have HOo:=zH (qG HO.out HXi.out (qi HO.out));have hsz2:=HX2.out.size;have HYE:Hid (ys=jV m x m.methods.length):=zH (by rw[HYS.out,show g=m.methods.length by omega]);have HEo:=zH (HE.out.below HXi.out);have hly:∀ad,Al=some ad→ad.block<wr.heap.size:=fun ad e=>qi HOi.out _ (by rw[e];rfl);have HEA:Hid (VB wr u3 Al cl ys):=zH ⟨⟨hl1,hl2,fun i z hi=>by
      obtain⟨ad,e,hb,hc⟩:=hll i (.int .i64 z) (by rw[List.getElem?_map,hi];rfl);exact⟨ad,e,hb,by rw[Nat.mul_one];exact hc⟩⟩,fun q hq ad e=>by
       have h1:=qi HO.out q hq;have h2:=(HOi.out.lt ad.block (by rw[e];rfl)).1;omega,hly⟩
     clear hly;go_wp2_with(at_builtin;refine wpList_append_lies _ rfl _ _ 64 rfl w1.heap.size 26 i0 (.slice none 0 0) 1 24 Tryz.underlying64 hi hz0 hz1 hz2 rfl (by decide) _ k xs rfl (HOo.out.alloc _) ⟨wr.heap.size,0,none⟩ 1 1 [.slice Al ys.length cl] rfl rfl (fun j u hj=>(by obtain⟨ad',e',_,h'⟩:=q2n wr (.slice Al ys.length cl) 26 j u hj;injection e' with e';subst e';exact h')) (Ve rfl) (by decide) (by unfold maxLen;omega) (by omega) (by simp;omega) _ rfl ?_;intro g9 c9 w6 hown hgrow hor hlt9;have HX6:=zH (qA (HX2.out.alloc hsz2 _) (HOo.out.alloc _) (by simp;omega) hgrow);have HO6:=zH hown;have HE6:=zH (HEo.out.snoc (n:=k+1) (k:=c9) HEA.out hgrow hor);clear hown hgrow hor)
     go_roundw;case rel=>exact⟨k+1,_,by omega,by go_num,HO6,HX6,zH (by rw[HTK.out,←HYE.out];exact HE6.out)⟩
     case measure=>simp[intOf];omega
  ·go_wp2_with fail
   go_ret;have e:k=m.methods.length:=by omega
   subst e;obtain⟨Ae,ce,rfl,hse⟩:=qp6 HO.out (by rw[List.length_map,List.take_length]) HE.out;have h1:(m.methods.take m.methods.length).map (fun x=>jV m x m.methods.length)=jm m:=by rw[List.take_length];rfl
   rw[h1]at hse;exact⟨Ae,ce,by rw[←h1];first|rfl|simp,hse,HW.out.trans (HX.out.mono HW.out.size)⟩
def qp(W:List (List Bool))(i j:Nat):Bool:=(W[i]?.getD [])[j]?.getD false
structure Je(n:Nat)(W:List (List Bool)):Prop where
 len:W.length=n
 row:∀r ∈W,r.length=n
def vX(W:List (List Bool))(i j:Nat)(b:Bool):List (List Bool):=W.set i ((W[i]?.getD []).set j b)
theorem Je.at_{n i:Nat}{W:List (List Bool)}(h:Je n W)(hi:i<n):(W[i]?.getD []).length=n:=by
 have hl:i<W.length:=by rw[h.len];exact hi
 rw[List.getElem?_eq_getElem hl,Option.getD_some];exact h.row _ (List.getElem_mem hl)
theorem Je.set{n i j:Nat}{W:List (List Bool)}(h:Je n W)(hi:i<n)(b:Bool):Je n (vX W i j b):=by
 refine⟨by unfold vX;rw[List.length_set];exact h.len,fun r hr=> ?_⟩;rcases List.mem_or_eq_of_mem_set hr with q|q
 ·exact h.row r q
 ·rw[q,List.length_set];exact h.at_ hi
theorem qpv{n i j i' j':Nat}{W:List (List Bool)}(h:Je n W)(hi:i<n)(hj:j<n)(b:Bool):qp (vX W i j b) i' j'=if i'=i∧j'=j then b else qp W i' j':=by
 have hl:i<W.length:=by rw[h.len];exact hi
 have hr:=h.at_ hi;unfold qp vX;rw[List.getElem?_set];by_cases hii:i=i'
 ·subst hii;rw[if_pos rfl,if_pos hl,Option.getD_some,List.getElem?_set];by_cases hjj:j=j'
  ·subst hjj;rw[if_pos rfl,if_pos (by omega),if_pos ⟨rfl,rfl⟩];rfl
  ·rw[if_neg hjj,if_neg (fun q=>hjj q.2.symm)]
 ·rw[if_neg hii,if_neg (fun q=>hii q.1.symm)]
structure ZD(EL:List (List Int))(n k:Nat)(W:List (List Bool)):Prop where
 sq:Je n W
 sound:∀i j,i<n→j<n→qp W i j=true→Way EL n i j
 full:∀i j,i<n→j<n→Way EL k i j→qp W i j=true
structure ZP(EL:List (List Int))(n k:Nat)(W0 W:List (List Bool))(i j:Nat):Prop where
 sq:Je n W
 sound:∀a b,a<n→b<n→qp W a b=true→Way EL n a b
 keep:∀a b,a<n→b<n→qp W0 a b=true→qp W a b=true
 done:∀a b,a<n→b<n→(a<i∨(a=i∧b<j))→qp W0 a k=true→qp W0 k b=true→qp W a b=true
theorem ZD.start{EL:List (List Int)}{n k:Nat}{W:List (List Bool)}(h:ZD EL n k W):ZP EL n k W W 0 0:=
 ⟨h.sq,h.sound,fun _ _ _ _ q=>q,fun a b _ _ q=>by omega⟩
theorem ZP.step{EL:List (List Int)}{n k i j:Nat}{W0 W:List (List Bool)}(h:ZP EL n k W0 W i j)(hk:k<n)(hi:i<n)(hj:j<n):
  ZP EL n k W0 (vX W i j (qp W i j||(qp W i k&& qp W k j))) i (j+1):=by
 have hs:∀a b,qp (vX W i j (qp W i j||(qp W i k&& qp W k j))) a b=if a=i∧b=j then(qp W i j||(qp W i k&& qp W k j))else qp W a b:=fun a b=>qpv h.sq hi hj _
 have hm:∀a b,qp W a b=true→qp (vX W i j (qp W i j||(qp W i k&& qp W k j))) a b=true:=fun a b q=>by
  rw[hs];by_cases e:a=i∧b=j
  ·rw[if_pos e,←e.1,←e.2,q,Bool.true_or]
  ·rw[if_neg e];exact q
 refine⟨h.sq.set hi _,fun a b ha hb q=> ?_,fun a b ha hb q=>hm a b (h.keep a b ha hb q),fun a b ha hb q h1 h2=> ?_⟩
 ·rw[hs]at q;by_cases e:a=i∧b=j
  ·rw[if_pos e]at q;obtain⟨rfl,rfl⟩:=e;rw[Bool.or_eq_true,Bool.and_eq_true]at q;rcases q with q|⟨q1,q2⟩
   ·exact h.sound _ _ ha hb q
   ·exact(h.sound _ _ ha hk q1).join hk (h.sound _ _ hk hb q2)
  ·rw[if_neg e]at q;exact h.sound a b ha hb q
 ·by_cases e:a=i∧b=j
  ·rw[hs,if_pos e];obtain⟨rfl,rfl⟩:=e;rw[h.keep a k ha hk h1,h.keep k b hk hb h2];simp
  ·exact hm a b (h.done a b ha hb (by omega) h1 h2)
theorem ZP.next{EL:List (List Int)}{n k i j:Nat}{W0 W:List (List Bool)}(h:ZP EL n k W0 W i j)(hj:n≤j):ZP EL n k W0 W (i+1) 0:=
 ⟨h.sq,h.sound,h.keep,fun a b ha hb q=>h.done a b ha hb (by omega)⟩
theorem ZP.end_{EL:List (List Int)}{n k i j:Nat}{W0 W:List (List Bool)}(h0:ZD EL n k W0)(h:ZP EL n k W0 W i j)(hk:k<n)(hi:n≤i):ZD EL n (k+1) W:=
 ⟨h.sq,h.sound,fun a b ha hb q=>by
  rcases q.split with q|⟨q1,q2⟩
  ·exact h.keep a b ha hb (h0.full a b ha hb q)
  ·exact h.done a b ha hb (by omega) (h0.full a k ha hk q1) (h0.full k b hk hb q2)⟩
theorem ZD.iff{EL:List (List Int)}{n:Nat}{W:List (List Bool)}(h:ZD EL n n W){i j:Nat}(hi:i<n)(hj:j<n):qp W i j=true↔Way EL n i j:=⟨h.sound i j hi hj,h.full i j hi hj⟩
theorem ZD.first{EL:List (List Int)}{n:Nat}{W:List (List Bool)}(hs:Je n W)(h:∀i j,i<n→j<n→(qp W i j=true↔vR EL i j)):ZD EL n 0 W:=
 ⟨hs,fun i j hi hj q=> .one ((h i j hi hj).mp q),fun i j hi hj q=>by
  cases q with
  |one e=>exact(h i j hi hj).mpr e
  |snoc _ hp _=>omega⟩
def jX(EL:List (List Int)):Nat→Nat→Nat→Bool
 |0,i,j=>decide ((j:Int) ∈EL[i]?.getD [])
 |n+1,i,j=>jX EL n i j||(jX EL n i n&& jX EL n n j)
theorem Vk{EL:List (List Int)}{n i j:Nat}:jX EL n i j=true↔Way EL n i j:=by
 induction n generalizing i j with
 |zero=>
  unfold jX;rw[decide_eq_true_eq];constructor
  ·exact fun h=> .one h
  ·intro h;cases h with
   |one e=>exact e
   |snoc _ hp _=>omega
 |succ n ih=>
  unfold jX;rw[Bool.or_eq_true,Bool.and_eq_true,ih,ih,ih];constructor
  ·rintro(h|⟨h1,h2⟩)
   ·exact h.more (by omega)
   ·exact(h1.more (by omega)).join (by omega) (h2.more (by omega))
  ·exact Way.split
def vh(m:za)(f:Int):List Int:=if 0≤f∧f<m.methods.length then jV m (zm m f) m.methods.length else []
theorem q05(m:za):(jm m).length=m.methods.length:=List.length_map _
theorem qca{m:za}{k:Nat}(hk:k<m.methods.length):(jm m)[k]? =some (vh m (k:Int)):=by
 unfold jm vh zm;rw[List.getElem?_map,if_pos ⟨by omega,by omega⟩,Int.toNat_natCast,List.getElem?_eq_getElem hk];rfl
theorem qph{m:za}{f:Int}(h:¬(0≤f∧f<m.methods.length)):vh m f=[]:=by unfold vh;rw[if_neg h]
theorem qb3(m:za)(f:Int):(vh m f).length≤m.methods.length:=by
 unfold vh;split
 ·exact qkq _ _ _
 ·simp
set_option maxHeartbeats 3200000 in
theorem qkw(m:za)(op a b:Int)(h:zl)(w:World)(H:zp w w.heap.size h m)(hn:m.classes.length≤1000)(hf:∀x ∈m.classes,x.fields.length≤1000)(hwa:op=23→IntKind.i64.wrap (1+a)=1+a)(ht:∀t ∈qj m op a b,0≤t∧t<m.methods.length):
  Calls Tryz.prog 13 #[zr h m,zF op a b] w fun e w'=>e= .returned (.int .i64 (jx m op a b))∧Below w.heap.size w w':=by
 obtain⟨hq,hc,hb,hz⟩:=Va h m op a b w;have HW:=zH hb;have HC:=zH hc;have HZ:=zH hz;have HBX:=zH hq;have HI:=zH (H.now hb);have HN:=zH hn;have HF:=zH hf;have HT:=zH ht;have hle:=H.methods.le;have hcap:=H.methods.cap;clear hb hq hc hz H hf ht;obtain⟨v,hv⟩:∃v,jx m op a b=v:=⟨_,rfl⟩
 have HV:=zH hv;rw[hv];clear hv;go_enter Tryz.func13,Tryz.ntmps13;go_upto_region 1 with fail
 generalize(w.alloc (zq h m)).alloc (.cells #[.int .i64 op,.int .i64 a,.int .i64 b] 45)=w1 at*
 have HL:Hid (w.heap.size<w1.heap.size∧w.heap.size+1<w1.heap.size):=zH (by have:=HZ.out;exact⟨by omega,by omega⟩);have HX:Hid (Below w1.heap.size w1 w1):=zH (zb _ _);obtain⟨q0,q1,q2,q3,q4,q5,q6⟩:=HBX.out;obtain⟨j0,j1,j2⟩:=zJ HC.out;by_cases h22:op=22
 ·subst h22;obtain⟨L,hL⟩:∃L,qS m.classes a=L:=⟨_,rfl⟩
  have hLl:L.length≤1000000:=by rw[←hL];exact VI HF.out hn a
  have HR:Hid (v=1+(L.length:Int)):=zH (by rw[←HV.out,←hL];rfl);have HFL:=zH hL;clear hL hwa;go_wp2_with(first|(go_at_call 28;(with_reducible refine(q1f HI HX HFL hn HF).mono ?_);rintro e w3 ⟨v3,rfl,ho,hb⟩;obtain⟨A1,k1,rfl,hS,_⟩:=vy ho;have HX3:=zj HX hb;obtain⟨q0,q1,q2,q3,q4,q5,q6⟩:=HBX.out.keep HX3.out HL.out.1;have j1:=(HC.out.keep HX3.out HL.out.2) 1 _ rfl;clear ho hb hS))
  go_ret;exact⟨by rw[HR.out];rfl,HW.out.trans (HX3.out.mono HW.out.size)⟩
 by_cases h23:op=23
 ·subst h23;have HR:Hid (v=1+a):=zH (by rw[←HV.out];rfl);have hwa:=hwa rfl;go_wp2_with fail
  go_ret;exact⟨by rw[HR.out];rfl,HW.out⟩
 obtain⟨L,hL⟩:∃L,qj m op a b=L:=⟨_,rfl⟩
 have hLl:L.length≤1000:=by rw[←hL];exact q3e m op a b hn
 have HR:Hid (v=jq m L):=zH (by rw[←HV.out,←hL];unfold jx;rw[if_neg h22,if_neg h23]);have HTL:=zH hL;have HT:Hid (∀t ∈L,0≤t∧t<(m.methods.length:Int)):=zH (by rw[←hL];exact HT.out);clear hL hwa;go_wp2_with(first|(go_at_call 29;(with_reducible refine(q3j HI HX HN HTL).mono ?_);rintro e w3 ⟨v3,rfl,ho,hb⟩;have HX3:=zj HX hb;obtain⟨A9,c9,rfl,hl9,hc9,hk9⟩:=kM ho;have HL9:=zH hl9;obtain⟨q0,q1,q2,q3,q4,q5,q6⟩:=HBX.out.keep HX3.out HL.out.1;obtain⟨j0,j1,j2⟩:=zJ (HC.out.keep HX3.out HL.out.2);clear ho hb hl9))
 go_loopw [5,7] (fun d i wr=>∃k:Nat,k≤L.length∧i= .int .i64 k∧d= .int .i64 (jq m (L.take k))∧Hid (Below w3.heap.size w3 wr)) (fun _ i _=>L.length - (intOf i).toNat)
 case atStart=>exact⟨0,Nat.zero_le _,rfl,rfl,zH (zb _ _)⟩
 case round=>
  obtain⟨k,hk,rfl,rfl,HXR⟩:=hrel;have HXX:=zH (HX3.out.trans (HXR.out.mono HX3.out.size));obtain⟨q0,q1,q2,q3,q4,q5,q6⟩:=HBX.out.keep HXX.out HL.out.1;obtain⟨P,hP⟩:∃P,jq m (L.take k)=P:=⟨_,rfl⟩
  have HP:=zH hP;rw[hP];clear hP;by_cases hlt:k<L.length
  ·obtain⟨a9,rfl,hb9,p9⟩:=qc3 HL9.out hlt;have p9:=(HXR.out.cell (p:=a9.add k) (by rw[zt];exact hb9)).trans p9;have HPT:Hid (jq m (L.take (k+1))=jS m P L[k]):=zH (by rw[qbo hlt,HP.out]);obtain⟨t0,t1⟩:=HT.out L[k] (List.getElem_mem hlt);generalize L[k]=t at*
   obtain⟨g,rfl⟩:=Int.eq_ofNat_of_zero_le t0;have hg:g<m.methods.length:=by omega
   obtain⟨ad,hx,eA,hab,hin,hcm⟩:=jB HI.out hg;have hc6:=(hcm.keep HXX.out (by rw[zt];exact hab)).c6;have eg:zm m (g:Int)=m.methods[g]:=by unfold zm;rw[Int.toNat_natCast,List.getElem?_eq_getElem hg];rfl
   have HPT:Hid (jq m (L.take (k+1))=if m.methods[g].pot>P then m.methods[g].pot else P):=zH (by rw[HPT.out];unfold jS;rw[eg]);rw[eA]at q3;generalize m.methods[g]=x at*
   obtain⟨u,hu⟩:∃u,x.pot=u:=⟨_,rfl⟩
   rw[hu]at hc6 HPT;clear hu hin hcm eg eA;by_cases hgt:u>P
   ·have HY:Hid (jq m (L.take (k+1))=u):=zH (by rw[HPT.out,if_pos hgt]);go_wp2_with fail
    go_region
    go_wp2_with fail
    go_region
    go_wp2_with fail
    go_roundw;case rel=>exact⟨k+1,by omega,by go_num,by rw[HY.out],zH HXR.out.drew.drew⟩
    case measure=>simp[intOf];omega
   ·have HY:Hid (jq m (L.take (k+1))=P):=zH (by rw[HPT.out,if_neg hgt]);go_wp2_with fail
    go_region
    go_wp2_with fail
    go_roundw;case rel=>exact⟨k+1,by omega,by go_num,by rw[HY.out],zH HXR.out.drew⟩
    case measure=>simp[intOf];omega
  ·have HY:Hid (v=P):=zH (by rw[HR.out,←HP.out,List.take_of_length_le (by omega)]);go_wp2_with fail
   go_ret;exact⟨by rw[HY.out];rfl,HW.out.trans (HXX.out.mono HW.out.size)⟩
theorem qnz{m:za}{op a b v:Int}{h:zl}{w0 w:World}(HI:Hid (zp w0 w0.heap.size h m))(HX:Hid (Below w0.heap.size w0 w))(HN:Hid (m.classes.length≤1000))(HF:Hid (∀x ∈m.classes,x.fields.length≤1000))(HA:Hid (op=23→IntKind.i64.wrap (1+a)=1+a))(HT:Hid (∀t ∈qj m op a b,0≤t∧t<m.methods.length))(HV:Hid (jx m op a b=v)):
  Calls Tryz.prog 13 #[zr h m,zF op a b] w fun e w'=>e= .returned (.int .i64 v)∧Below w.heap.size w w':=by
 have H:=qkw m op a b h w (HI.out.now HX.out) HN.out HF.out HA.out HT.out;rw[HV.out]at H;exact H
theorem q16{op a b:Int}(h:jb op a b=true):0≤a∧a≤255∧0≤b∧b≤255:=by
 have:=of_decide_eq_true h;omega
theorem qbc{m:za}{c:Int}{ab:List Int}:∀{l:List Int} {k:Nat},kJ m c ab k l=true→∀s ∈l,s.toNat<m.methods.length
 | [],_,_,s,hs=>nomatch hs
 |t::l,k,h,s,hs=>by
  have h:(vr m c ab k t&& kJ m c ab (k+1) l)=true:=h;rw[Bool.and_eq_true]at h;rcases List.mem_cons.mp hs with rfl|hs
  ·have h1:=h.1;unfold vr at h1;rcases Nat.lt_or_ge s.toNat m.methods.length with g|g
   ·exact g
   ·rw[List.getElem?_eq_none g]at h1;cases h1
  ·exact qbc h.2 s hs
theorem qeu{m:za}(hm:zP m){k b t:Int}(h:vb m.classes k b=some t):0≤t∧t<m.methods.length:=by
 unfold vb at h;split at h
 ·cases hc:m.classes[k.toNat]? with
  |none=>rw[hc]at h;cases h
  |some c=>
   rw[hc]at h;have h:c.slots[b.toNat]? =some t:=h;have ht:t ∈c.slots:=List.mem_of_getElem? h;have hb:=hm.cls _ c hc;have hf:=(hm.fits.ct c (List.mem_of_getElem? hc)).st t ht;unfold qo at hb;simp only[Bool.and_eq_true]at hb;have:=qbc hb.2.2.2.2 t ht;omega
 ·cases h
theorem q8n{m:za}(hm:zP m){x:ze}(hx:x ∈m.methods){op a b:Int}(hi:(op,a,b) ∈x.code):∀t ∈qj m op a b,0≤t∧t<m.methods.length:=fun t ht=>by
 unfold qj at ht;split at ht
 ·rename_i h31;subst h31;have hn:=(hm.method hx).co _ hi;have hs:=q16 ((hm.method hx).fits.ct _ hi);dsimp only at hn hs;have hn:decide (a<m.methods.length)=true:=hn;rw[List.mem_singleton]at ht;subst ht;exact⟨hs.1,of_decide_eq_true hn⟩
 ·split at ht
  ·unfold vN at ht;obtain⟨k,_,hk⟩:=List.mem_filterMap.mp ht;exact qeu hm hk
  ·cases ht
theorem qon{m:za}(hm:zP m)(t:Int):0≤(zm m t).pot∧(zm m t).pot≤4096:=by
 unfold zm;cases h:m.methods[t.toNat]? with
 |none=>exact⟨by decide,by decide⟩
 |some x=>have:=(hm.method (List.mem_of_getElem? h)).fits;exact⟨this.p0,this.p1⟩
theorem ql8{m:za}(hm:zP m)(L:List Int):0≤jq m L∧jq m L≤4096:=by
 have H:∀(L:List Int) (p:Int),0≤p→p≤4096→0≤L.foldl (jS m) p∧L.foldl (jS m) p≤4096:=by
  intro L
  induction L with
  |nil=>intro p h1 h2;exact⟨h1,h2⟩
  |cons t L ih=>
   intro p h1 h2;have:=qon hm t;refine ih (jS m p t) ?_ ?_<;>unfold jS<;>split<;>omega
 exact H L 0 (by decide) (by decide)
theorem q1i{m:za}(hm:zP m){x:ze}(hx:x ∈m.methods){op a b:Int}(hi:(op,a,b) ∈x.code):0≤jx m op a b∧jx m op a b≤1000001:=by
 have hs:=q16 ((hm.method hx).fits.ct _ hi);dsimp only at hs;have hf:=VI (cl:=m.classes) (fun c hc=>by have:=(hm.fits.ct c hc).fl;omega) (by have:=hm.fits.cl;omega) a;have hp:=ql8 hm (qj m op a b);unfold jx;split
 ·omega
 ·split<;>omega
theorem YU{m:za}{x:ze}{op a b v:Int}{h:zl}{w0 w:World}(HI:Hid (zp w0 w0.heap.size h m))(HX:Hid (Below w0.heap.size w0 w))(HM:Hid (zP m))(HXM:Hid (x ∈m.methods))(HC:Hid ((op,a,b) ∈x.code))(HV:Hid (jx m op a b=v)):
  Calls Tryz.prog 13 #[zr h m,zF op a b] w fun e w'=>e= .returned (.int .i64 v)∧Below w.heap.size w w':=by
 refine qnz HI HX (zH (by have:=HM.out.fits.cl;omega)) (zH (fun c hc=>by have:=(HM.out.fits.ct c hc).fl;omega)) (zH (fun _=> ?_)) (zH (q8n HM.out HXM.out HC.out)) HV;have hs:=q16 ((HM.out.method HXM.out).fits.ct _ HC.out);dsimp only at hs;exact IntWalk.i64_in (1+a) ⟨by omega,by omega⟩
def Dry(w:World)(v:Value):Prop:=∀g,v.ownBlock=some g→∀q:Addr,q.block=g→∀k x,¬w.cell? q=some (.int k x)
theorem q2x{w:World}{g:Nat}{arr:Array Value}{e:TypeId}{fz:Nat×Nat}(h:w.heap[g]? =some (.cells arr e fz))(hn:∀u ∈arr.toList,∀k x,u≠ .int k x):∀q:Addr,q.block=g→∀k x,¬w.cell? q=some (.int k x):=by
 intro q hq k x hc;unfold World.cell? at hc;rw[hq,h]at hc;dsimp only at hc;split at hc
 ·cases hc
 ·exact hn _ (Array.mem_toList_iff.mpr (Array.mem_of_getElem? hc)) _ _ rfl
theorem dry_in{w:World}{g:Nat}{arr:Array Value}{e:TypeId}{fz:Nat×Nat}(h:w.heap[g]? =some (.cells arr e fz))(hd:∀q:Addr,q.block=g→∀k x,¬w.cell? q=some (.int k x)):∀u ∈arr.toList,∀k x,u≠ .int k x:=by
 intro u hu k x e;subst e;obtain⟨j,hj⟩:=List.mem_iff_getElem?.mp hu;refine hd ⟨g,j,none⟩ rfl k x ?_;unfold World.cell?;dsimp only;rw[h];dsimp only;rw[←Array.getElem?_toList,hj];rfl
theorem qb0(n:Nat):∀u ∈(Builtin.zeroCells (Value.slice none 0 0).cells n).toList,∀k x,u≠ .int k x:=by
 intro u hu k x e;subst e;unfold Builtin.zeroCells at hu;simp[Value.cells]at hu;obtain⟨a,_,h⟩:=hu;rw[Nat.mod_one]at h;simp at h
theorem Dry.below{w w':World}{v:Value}(h:Dry w v)(hv:∀g,v.ownBlock=some g→g<w.heap.size)(hb:Below w.heap.size w w'):Dry w' v:=fun g hg q hq k x=>by
 rw[hb.cell (by rw[hq];exact hv g hg)];exact h g hg q hq k x
theorem qmw(w:World)(T:TypeId):Dry (w.alloc (.cells #[] T)) (.slice (some ⟨w.heap.size,0,none⟩) 0 0):=fun g hg=>by
 simp[Value.ownBlock]at hg;subst hg;exact q2x (heap_alloc_new _ _) (fun u hu=>by simp at hu)
theorem qdp{P:Program}(w:World)(base:Nat)(t ty e:TypeId)(i:TypeInfo)(bytes:Nat)(ht:P.underlying t=some (.slice e))(hi:P.info? e=some i)(hz:i.zero=some (.slice none 0 0))
  (hsize:i.size=1) (hby:i.bytes=bytes) (v:Value) (n:Nat) (xs:List Value) (hown:w.ownsRow base e 1 v n xs) (hd:Dry w v)
  (a:Addr) (c:Nat) (A':Option Addr) (n' c':Nat) (hnews:w.cell? (a.add 0)=some (.slice A' n' c'))
  (h63:n+1≤maxLen) (hbytes:(n+1)*bytes≤140737488355328) (hbase:base≤w.heap.size):
  ∃g cap w',(Builtin.append_ #[t,t] ty #[v,.slice (some a) 1 c]).run P w= .ok (.slice (some ⟨g,0,none⟩) (n+1) cap) w'∧w'.ownsRow base e 1 (.slice (some ⟨g,0,none⟩) (n+1) cap) (n+1) (xs++[.slice A' n' c'])∧
   w.grownBy w' v.ownBlock∧(v.ownBlock=some g∨g=w.heap.size)∧g<w'.heap.size∧Dry w' (.slice (some ⟨g,0,none⟩) (n+1) cap):=by
 have hnw:∀j u,[Value.slice A' n' c'][j]? =some u→w.cell? (a.add j)=some u:=fun j u hj=>by
  match j,hj with
  |0,hj=>simp at hj;subst hj;exact hnews
  |j+1,hj=>simp at hj
 have h1:∀u ∈ [Value.slice A' n' c'],u.oneCell'=true:=fun u hu=>by simp at hu;subst hu;rfl
 have hsmall:n+1≤9223372036854775807:=by simp only[maxLen]at h63;omega
 obtain⟨v',w',hr,h2,h3,h4,h5⟩:=run_append_own_at (P:=P) w base t ty e i (.slice none 0 0) 1 bytes ht hi hz hsize hby rfl (by decide) v n xs hown a 1 c [.slice A' n' c'] rfl hnw h1 h63 hbytes hbase;have hnot:∀u:Value,u= .slice A' n' c'→∀k x,u≠ .int k x:=fun u hu k x e=>by rw[hu]at e;cases e
 obtain⟨g,cap,rfl,hlt⟩:∃g cap,v'= .slice (some ⟨g,0,none⟩) (n+1) cap∧g<w'.heap.size:=by
  rcases h2.2 with⟨_,q⟩|⟨g,cap,cur,e1,_,hg,_⟩
  ·omega
  ·exact⟨g,cap,e1,(Array.getElem?_eq_some_iff.1 hg).1⟩
 refine⟨g,cap,w',hr,h2,h3,?_,hlt,fun g' hg'=> ?_⟩
 ·rcases h5 with h5|h5
  ·exact .inl (h5.symm.trans rfl)
  ·simp[Value.ownBlock]at h5;exact .inr h5
 ·simp[Value.ownBlock]at hg';subst hg';rcases hown.2 with⟨rfl,rfl⟩|⟨gv,capv,cur,rfl,hbg,hg,hnc,hcm,hcs,htake⟩
  ·have hq:=run_append_nil (P:=P) w t ty e i (.slice none 0 0) ht hi hz a 1 c [.slice A' n' c'] (by rw[hsize];rfl) hnw (by decide) (by decide) (by rw[hby];omega);rw[hr]at hq;injection hq with q1 q2;injection q1 with q1;injection q1 with q1;simp at q1;subst q1 q2;refine q2x (heap_alloc_new w.drew _) fun u hu=> ?_;simp only[Array.toList_append]at hu;rcases List.mem_append.mp hu with hu|hu
   ·simp at hu;exact hnot u hu
   ·exact qb0 _ u hu
  ·have hcd:=dry_in hg (hd gv rfl);by_cases hroom:n+1≤capv
   ·have hq:=run_append_room (P:=P) w t ty e i ht hi gv n capv cur hg a 1 c [.slice A' n' c'] (by rw[hsize];rfl) hnw h1 hroom (by rw[hsize,hcs];simp;omega);rw[hr]at hq;injection hq with q1 q2;injection q1 with q1;injection q1 with q1;simp at q1;subst q1 q2;refine q2x (setRow_heap w _ cur _ e _ hg) fun u hu=> ?_;simp only[List.append_assoc]at hu;rcases List.mem_append.mp hu with hu|hu
    ·exact hcd u (List.mem_of_mem_take hu)
    ·rcases List.mem_append.mp hu with hu|hu
     ·simp at hu;exact hnot u hu
     ·exact hcd u (List.mem_of_mem_drop hu)
   ·have holds:∀j u,xs[j]? =some u→w.cell? ((⟨gv,0,none⟩:Addr).add j)=some u:=hown.cells (g:=gv) rfl;have hq:=run_append_grow (P:=P) w t ty e i (.slice none 0 0) ht hi hz ⟨gv,0,none⟩ n capv xs (by rw[hsize];exact hown.1) holds a 1 c [.slice A' n' c'] (by rw[hsize];rfl) hnw (by omega) (by omega) (growslice_fits (by omega) (by rw[hby];exact hbytes));rw[hr]at hq;injection hq with q1 q2;injection q1 with q1;injection q1 with q1;simp at q1;subst q1 q2;refine q2x (heap_alloc_new w.drew _) fun u hu=> ?_;simp only[Array.toList_append]at hu;rcases List.mem_append.mp hu with hu|hu
    ·rcases List.mem_append.mp hu with hu|hu
     ·exact hcd u (by rw[←htake]at hu;exact List.mem_of_mem_take (by simpa using hu))
     ·simp at hu;exact hnot u hu
    ·exact qb0 _ u hu
theorem q9r{P:Program}{w:World}{ops:Array Oper}{rest:List Oper}{o:Oper}{a:Act}{Q:Exit→Act→World→Prop}(hgd:o.guard=none)(s x:Operand)(t:TypeId)
  (ho:o.op= .call {callee:= .builtin .append,args:= #[s,x],argTypes:= #[t,t]})
  (base:Nat) (e:TypeId) (i:TypeInfo) (bytes:Nat) (ht:P.underlying t=some (.slice e)) (hi:P.info? e=some i) (hz:i.zero=some (.slice none 0 0))
  (hsize:i.size=1) (hby:i.bytes=bytes) (v:Value) (n:Nat) (xs:List Value) (hs:a.eval s=v) (hown:w.ownsRow base e 1 v n xs) (hd:Dry w v)
  (ad:Addr) (c:Nat) (A':Option Addr) (n' c':Nat) (hx:a.eval x= .slice (some ad) 1 c) (hnews:w.cell? (ad.add 0)=some (.slice A' n' c'))
  (h63:n+1≤maxLen) (hbytes:(n+1)*bytes≤140737488355328) (hbase:base≤w.heap.size) (H:Nat) (hH:w.heap.size=H)
  (h:∀g cap w',w'.ownsRow base e 1 (.slice (some ⟨g,0,none⟩) (n+1) cap) (n+1) (xs++[.slice A' n' c'])→w.grownBy w' v.ownBlock→(v.ownBlock=some g∨g=H)→g<w'.heap.size→Dry w' (.slice (some ⟨g,0,none⟩) (n+1) cap)→wpList P ops Q rest (a.put o.dst (.slice (some ⟨g,0,none⟩) (n+1) cap)) w'):
  wpList P ops Q (o::rest) a w:=by
 refine wpList_plain hgd fun K hK=> ?_;obtain⟨g,cap,w',hr,h2,h3,h4,h5,h6⟩:=qdp (P:=P) w base t o.type e i bytes ht hi hz hsize hby v n xs hown hd ad c A' n' c' hnews h63 hbytes hbase;unfold Oper.wp execOp;simp only[ho,resolve,invoke,builtin,Sem.run_bind,Sem.run_pure,Result.andThen_ok,List.map_toArray,List.map_cons,List.map_nil,hs,hx,hr];exact hK _ _ (h g cap w' h2 h3 (hH ▸ h4) h5 h6)
def q0n(n:Nat)(maps:List (List zu)):Prop:=∀S ∈maps,S.length≤n∧∀s ∈S,s.stack.length≤n
theorem q0n.more{n k:Nat}{maps:List (List zu)}(h:q0n n maps)(hk:n≤k):q0n k maps:=fun S hS=>⟨Nat.le_trans (h S hS).1 hk,fun s hs=>Nat.le_trans ((h S hS).2 s hs) hk⟩
def qd7(L:List Int)(w:World)(e:Ending)(w':World):Prop:=∃A c,e= .returned (.slice A L.length c)∧zd zo 1 w' w'.heap.size A c L∧(∀ad,A=some ad→w.heap.size≤ad.block)∧Below w.heap.size w w'
theorem qcz{w:World}{g:Nat}{p q:Int}(hg:g<w.heap.size)(h0:w.cell? ⟨g,0,none⟩=some (.int .i64 p))(h1:w.cell? ⟨g,1,none⟩=some (.int .i64 q)):zd zo 1 w w.heap.size (some ⟨g,0,none⟩) 2 [p,q]:=
 ⟨zn _,by omega,fun i t hi=>by
  match i,hi with
  |0,hi=>simp at hi;subst hi;exact⟨_,rfl,hg,h0⟩
  |1,hi=>simp at hi;subst hi;exact⟨_,rfl,hg,(show w.cell? _=_ by simpa[Addr.add]using h1)⟩
  |i+2,hi=>simp at hi⟩
theorem qmq(op a b:Int)(pc:Nat)(hpc:pc≤1000000)(w:World):
  Calls Tryz.prog 91 #[zF op a b,.int .i64 pc] w (qd7 (qE pc op a) w):=by
 have hw1:IntKind.i64.wrap ((pc:Int)+1)=(pc:Int)+1:=IntWalk.i64_in _ (by omega);by_cases h18:op=18
 ·subst h18;have e:qE (pc:Int) 18 a=[a]:=rfl;rw[e];clear e;go_enter Tryz.func91,Tryz.ntmps91;go_wp2_with fail
  go_ret;exact⟨_,_,rfl,QD (by simp) (by go_simp),(fun ad e=>by injection e with e;subst e;simp),((zb _ _).alloc (zn _) _).alloc (by simp) _⟩
 ·by_cases h19:op=19
  ·subst h19;have e:qE (pc:Int) 19 a=[(pc:Int)+1,a]:=rfl;rw[e];clear e;go_enter Tryz.func91,Tryz.ntmps91;go_wp2_with fail
   go_ret;exact⟨_,_,rfl,qcz (by simp) (by go_simp) (by go_simp),(fun ad e=>by injection e with e;subst e;simp),((zb _ _).alloc (zn _) _).alloc (by simp) _⟩
  ·by_cases h33:op=33
   ·subst h33;have e:qE (pc:Int) 33 a=[]:=rfl;rw[e];clear e;go_enter Tryz.func91,Tryz.ntmps91;go_wp2_with fail
    go_ret;exact⟨_,_,rfl,ji,(fun ad e=>by cases e),(zb _ _).alloc (zn _) _⟩
   ·have e:qE (pc:Int) op a=[(pc:Int)+1]:=by unfold qE;rw[if_neg h18,if_neg h19,if_neg h33]
    rw[e];clear e;go_enter Tryz.func91,Tryz.ntmps91;go_wp2_with fail
    go_ret;exact⟨_,_,rfl,QD (by simp) (by go_simp),(fun ad e=>by injection e with e;subst e;simp),((zb _ _).alloc (zn _) _).alloc (by simp) _⟩
theorem qmp{op a b:Int}{pc:Nat}{w:World}{L:List Int}(HL:Hid (qE pc op a=L))(hpc:pc≤1000000):
  Calls Tryz.prog 91 #[zF op a b,.int .i64 pc] w (qd7 L w):=by
 have H:=qmq op a b pc hpc w;rw[HL.out]at H;exact H
def ZH(n:Int)(l:List Int):Bool:=l.any fun x=>decide (n≤x)
abbrev qdh(N:Nat):Value:= .func (.func 108) #[] #[.pointer (some ⟨N,0,none⟩)]
theorem qfm(x n:Int)(N:Nat)(w:World)(hc:w.cell? ⟨N,0,none⟩=some (.int .i64 n)):
  Calls Tryz.prog 108 #[.int .i64 x,.pointer (some ⟨N,0,none⟩)] w fun e w'=>e= .returned (.bool (decide (n≤x)))∧w'=w:=by
 go_enter Tryz.func108,Tryz.ntmps108;go_wp2_with fail
 go_ret;exact⟨rfl,rfl⟩
theorem q9k{x n:Int}{N:Nat}{w:World}{r:Bool}(hc:w.cell? ⟨N,0,none⟩=some (.int .i64 n))(HR:Hid (decide (n≤x)=r)):
  Calls Tryz.prog 108 #[.int .i64 x,.pointer (some ⟨N,0,none⟩)] w fun e w'=>e= .returned (.bool r)∧w'=w:=by
 have H:=qfm x n N w hc;rw[HR.out]at H;exact H
theorem qpk{f:Int→Bool}{l:List Int}{k:Nat}(hk:k<l.length)(h:(l.take k).any f=false)(hx:f l[k]=false):(l.take (k+1)).any f=false:=by
 rw[List.take_succ_eq_append_getElem hk,List.any_append,h];simp[hx]
theorem any_at{f:Int→Bool}{l:List Int}{k:Nat}(hk:k<l.length)(hx:f l[k]=true):l.any f=true:=List.any_eq_true.mpr ⟨_,List.getElem_mem hk,hx⟩
theorem qii(l:List Int)(n:Int)(N:Nat)(A:Option Addr)(c:Nat)(w:World)(hc:w.cell? ⟨N,0,none⟩=some (.int .i64 n))(h:zd zo 1 w w.heap.size A c l):
  Calls Tryz.prog 101 #[.slice A l.length c,qdh N] w fun e w'=>∃z:Int,e= .returned (.int .i64 z)∧decide (z ≥ 0)=ZH n l∧w'=w:=by
 have hle:=h.le;have hcap:=h.cap;have HS:=zH h;clear h;go_enter Tryz.func101,Tryz.ntmps101;go_wp2_with fail
 go_loopw [8] (fun i wr=>∃k:Nat,k≤l.length∧i= .int .i64 k∧Hid (ZH n (l.take k)=false)∧wr=w) (fun i _=>l.length - (intOf i).toNat)
 case atStart=>exact⟨0,by omega,rfl,zH rfl,rfl⟩
 case round=>
  obtain⟨k,hk,rfl,HA,rfl⟩:=hrel;by_cases hlt:k<l.length
  ·obtain⟨ad,rfl,hab,hcz⟩:=HS.out.row.at_ hlt;have hcz:wr.cell? (ad.add k)=some (.int .i64 l[k]):=by have:=hcz;rw[Nat.mul_one]at this;exact this
   obtain⟨r,hr⟩:∃r,decide (n≤l[k])=r:=⟨_,rfl⟩
   have HR:=zH hr;cases r
   ·have HA2:Hid (ZH n (l.take (k+1))=false):=zH (qpk hlt HA.out hr);clear hr;go_wp2_with(go_at_call 108;(with_reducible refine(q9k hc HR).mono ?_);rintro e w1 ⟨rfl,rfl⟩)
    go_roundw;case rel=>exact⟨k+1,by omega,by go_num,HA2,trivial⟩
    case measure=>simp[intOf];omega
   ·have HA2:Hid (ZH n l=true):=zH (any_at hlt hr);clear hr;go_wp2_with(go_at_call 108;(with_reducible refine(q9k hc HR).mono ?_);rintro e w1 ⟨rfl,rfl⟩)
    go_ret;exact⟨_,rfl,by rw[HA2.out];simp,rfl⟩
  ·have HA2:Hid (ZH n l=false):=zH (by have:=HA.out;rwa [List.take_of_length_le (by omega)]at this);go_wp2_with fail
   go_ret;exact⟨_,rfl,by rw[HA2.out];rfl,rfl⟩
theorem qe1(l:List Int)(n:Int)(N:Nat)(A:Option Addr)(c:Nat)(w:World)(hc:w.cell? ⟨N,0,none⟩=some (.int .i64 n))(h:zd zo 1 w w.heap.size A c l):
  Calls Tryz.prog 71 #[.slice A l.length c,qdh N] w fun e w'=>e= .returned (.bool (ZH n l))∧w'=w:=by
 have HS:=zH h;have HC:=zH hc;clear h hc;go_enter Tryz.func71,Tryz.ntmps71;go_wp2_with(go_at_call 101;(with_reducible refine(qii l n N A c _ HC.out HS.out).mono ?_);rintro e w1 ⟨z,rfl,hz,rfl⟩;have HZ:=zH hz;clear hz)
 go_ret;exact⟨by rw[←HZ.out];rfl,rfl⟩
theorem qfl(l:List Int)(n:Int)(A:Option Addr)(c:Nat)(w:World)(h:zd zo 1 w w.heap.size A c l):
  Calls Tryz.prog 92 #[.slice A l.length c,.int .i64 n] w fun e w'=>e= .returned (.bool (ZH n l))∧Below w.heap.size w w':=by
 have hA:Below w.heap.size w (w.alloc (.cells #[.int .i64 n] 3)):=(zb _ _).alloc (zn _) _;have HA:=zH hA;have HS:=zH ((h.below_to zo.keeps hA (zn _)).keep' zo.keeps hA.size (fun _ _=>rfl));have HC:=zH (qd w [.int .i64 n] 3);clear h hA;go_enter Tryz.func92,Tryz.ntmps92;go_upto_region 1 with fail
 generalize w.alloc (.cells #[.int .i64 n] 3)=w1 at*
 have c0:=HC.out 0 _ rfl;go_wp2_with(go_at_call 71;(with_reducible refine(qe1 l n w.heap.size A c w1 c0 HS.out).mono ?_);rintro e w2 ⟨rfl,rfl⟩)
 go_ret;exact⟨rfl,HA.out⟩
theorem q9j{l:List Int}{n:Int}{A:Option Addr}{c:Nat}{w:World}{r:Bool}(h:zd zo 1 w w.heap.size A c l)(HR:Hid (ZH n l=r)):
  Calls Tryz.prog 92 #[.slice A l.length c,.int .i64 n] w fun e w'=>e= .returned (.bool r)∧Below w.heap.size w w':=by
 have H:=qfl l n A c w h;rw[HR.out]at H;exact H
abbrev overF:Value:= .func (.func 72) #[] #[]
def ZF(l:List Int):Bool:=l.any fun t=>decide (t>4096)
theorem qlo{l:List Int}{k:Nat}(h:k<l.length)(h0:ZF (l.take k)=false)(h1:decide (l[k]>4096)=false):ZF (l.take (k+1))=false:=by
 unfold ZF at h0⊢
 rw[List.take_add_one,List.getElem?_eq_getElem h,List.any_append,h0];simpa using h1
theorem qr5{l:List Int}{k:Nat}(h:k<l.length)(h1:decide (l[k]>4096)=true):ZF l=true:=List.any_eq_true.mpr ⟨l[k],List.getElem_mem h,h1⟩
theorem qaa{n:Int}{r:Bool}{w:World}(HR:Hid (decide (n>4096)=r)):Calls Tryz.prog 72 #[.int .i64 n] w fun e w'=>e= .returned (.bool r)∧w'=w:=by
 cases r
 ·have h:¬n>4096:=of_decide_eq_false HR.out;go_enter Tryz.func72,Tryz.ntmps72;go_wp2_with fail
  go_ret;exact⟨by first|rfl|simp[h],rfl⟩
 ·have h:n>4096:=of_decide_eq_true HR.out;go_enter Tryz.func72,Tryz.ntmps72;go_wp2_with fail
  go_ret;exact⟨by first|rfl|simp[h],rfl⟩
set_option maxHeartbeats 1600000 in
theorem qf5(l:List Int)(A:Option Addr)(c:Nat)(w:World)(h:zd zo 1 w w.heap.size A c l):
  Calls Tryz.prog 101 #[.slice A l.length c,overF] w fun e w'=>∃z:Int,e= .returned (.int .i64 z)∧decide (z ≥ 0)=ZF l∧w'=w:=by
 have hle:=h.le;have hcap:=h.cap;have HS:=zH h;clear h;go_enter Tryz.func101,Tryz.ntmps101;go_wp2_with fail
 go_loopw [8] (fun i wr=>∃k:Nat,k≤l.length∧i= .int .i64 k∧Hid (ZF (l.take k)=false)∧wr=w) (fun i _=>l.length - (intOf i).toNat)
 case atStart=>exact⟨0,by omega,rfl,zH rfl,rfl⟩
 case round=>
  obtain⟨k,hk,rfl,HA,rfl⟩:=hrel;by_cases hlt:k<l.length
  ·obtain⟨ad,rfl,hab,hcz⟩:=HS.out.row.at_ hlt;have hcz:wr.cell? (ad.add k)=some (.int .i64 l[k]):=by have:=hcz;rw[Nat.mul_one]at this;exact this
   obtain⟨r,hr⟩:∃r,decide (l[k]>4096)=r:=⟨_,rfl⟩
   have HR:=zH hr;cases r
   ·have HA2:Hid (ZF (l.take (k+1))=false):=zH (qlo hlt HA.out hr);clear hr;go_wp2_with(go_at_call 72;(with_reducible refine(qaa HR).mono ?_);rintro e w1 ⟨rfl,rfl⟩)
    go_roundw;case rel=>exact⟨k+1,by omega,by go_num,HA2,trivial⟩
    case measure=>simp[intOf];omega
   ·have HA2:Hid (ZF l=true):=zH (qr5 hlt hr);clear hr;go_wp2_with(go_at_call 72;(with_reducible refine(qaa HR).mono ?_);rintro e w1 ⟨rfl,rfl⟩)
    go_ret;exact⟨_,rfl,by rw[HA2.out];simp,rfl⟩
  ·have HA2:Hid (ZF l=false):=zH (by have:=HA.out;rwa [List.take_of_length_le (by omega)]at this);go_wp2_with fail
   go_ret;exact⟨_,rfl,by rw[HA2.out];rfl,rfl⟩
theorem q5o{l:List Int}{n:Nat}{r:Bool}{A:Option Addr}{c:Nat}{w:World}(hn:Hid (l.length=n))(h:Hid (zd zo 1 w w.heap.size A c l))(hr:Hid (ZF l=r)):
  Calls Tryz.prog 71 #[.slice A n c,overF] w fun e w'=>e= .returned (.bool r)∧w'=w:=by
 obtain rfl:=hn.out;have HS:=zH h.out;clear h;go_enter Tryz.func71,Tryz.ntmps71;go_wp2_with(go_at_call 101;(with_reducible refine(qf5 l A c _ HS.out).mono ?_);rintro e w1 ⟨z,rfl,hz,rfl⟩;have HZ:=zH hz;clear hz)
 go_ret;exact⟨by rw[←hr.out,←HZ.out];rfl,rfl⟩
set_option maxHeartbeats 1600000 in
theorem qe6(m:za)(f:Int)(r:Bool)(hr:(decide (0≤f)&& decide (f<m.methods.length))=r)(h:zl)(w:World)(H:zp w w.heap.size h m):
  Calls Tryz.prog 86 #[zr h m,.int .i64 f] w fun e w'=>e= .returned (.bool r)∧Below w.heap.size w w':=by
 have HW:=zH ((zb w.heap.size w).alloc (zn _) (zq h m));have HBX:=zH (qf w h m);have hle:=H.methods.le;have hcap:=H.methods.cap;clear H;by_cases h0:0≤f
 ·by_cases h1:f<m.methods.length
  ·have e:r=true:=by rw[←hr,decide_eq_true h0,decide_eq_true h1];rfl
   subst e;clear hr;go_enter Tryz.func86,Tryz.ntmps86;go_upto_region 1 with fail
   generalize w.alloc (zq h m)=w1 at*
   obtain⟨q0,q1,q2,q3,q4,q5,q6⟩:=HBX.out;go_wp2_with fail
   go_ret;exact⟨rfl,HW.out⟩
  ·have e:r=false:=by rw[←hr,decide_eq_false h1,Bool.and_false]
   subst e;clear hr;go_enter Tryz.func86,Tryz.ntmps86;go_upto_region 1 with fail
   generalize w.alloc (zq h m)=w1 at*
   obtain⟨q0,q1,q2,q3,q4,q5,q6⟩:=HBX.out;go_wp2_with fail
   go_ret;exact⟨rfl,HW.out⟩
 ·have e:r=false:=by rw[←hr,decide_eq_false h0,Bool.false_and]
  subst e;clear hr;go_enter Tryz.func86,Tryz.ntmps86;go_upto_region 1 with fail
  generalize w.alloc (zq h m)=w1 at*
  obtain⟨q0,q1,q2,q3,q4,q5,q6⟩:=HBX.out;go_wp2_with fail
  go_ret;exact⟨rfl,HW.out⟩
theorem q12{m:za}{f:Int}{r:Bool}{h:zl}{w0 w:World}(HI:Hid (zp w0 w0.heap.size h m))(HX:Hid (Below w0.heap.size w0 w))(HR:Hid ((decide (0≤f)&& decide (f<m.methods.length))=r)):
  Calls Tryz.prog 86 #[zr h m,.int .i64 f] w fun e w'=>e= .returned (.bool r)∧Below w.heap.size w w':=by
 exact qe6 m f r HR.out h w (HI.out.now HX.out)
set_option maxHeartbeats 3200000 in
theorem qiy(m:za)(a b:Int)(h:zl)(w:World)(H:zp w w.heap.size h m)(hn:m.classes.length≤1000):
  Calls Tryz.prog 106 #[zr h m,.int .i64 a,.int .i64 b] w (vO (vN m b (Ze m.classes a)) w):=by
 obtain⟨L,hL⟩:∃L,Ze m.classes a=L:=⟨_,rfl⟩
 rw[hL];have hLl:L.length≤1000:=by rw[←hL];exact Nat.le_trans (YS _ _ _) hn
 have HLB:=zH hL;clear hL;obtain⟨i0,hi,hz0,hz1,hz2⟩:=info_parts kp;have HW:=zH ((zb w.heap.size w).alloc (zn _) (zq h m));have HIM:=zH (H.now HW.out);have HBX:=zH (qf w h m);have HZ:Hid (w.heap.size<(w.alloc (zq h m)).heap.size):=zH (by simp);have hn1:=hn;have hkc:=H.classes.cap;clear H;go_enter Tryz.func106,Tryz.ntmps106;go_upto_region 1 with fail
 generalize w.alloc (zq h m)=w1 at*
 have HX0:Hid (Below w1.heap.size w1 w1):=zH (zb _ _);obtain⟨q0,q1,q2,q3,q4,q5,q6⟩:=HBX.out;go_wp2_with(go_at_call 126;(with_reducible refine(qnd HIM HX0 HLB hn1).mono ?_);rintro e w5 ⟨v5,rfl,ho,hb⟩;have HX:=zH hb;obtain⟨A5,c5,rfl,hl5,g1,g2⟩:=kM ho;have HL5:=zH hl5;clear hb ho hl5)
 go_loopw [7,16] (fun v i wr=>∃k:Nat,k≤L.length∧i= .int .i64 k∧Hid (wr.ownsRow w1.heap.size 3 1 v (vN m b (L.take k)).length ((vN m b (L.take k)).map (Value.int .i64)))∧Hid (Below w1.heap.size w1 wr)∧Hid (zz wr w5.heap.size A5 (L.map (Value.int .i64)))∧Hid (QN v A5)∧Hid (w5.heap.size≤wr.heap.size)) (fun _ i _=>L.length - (intOf i).toNat)
 case atStart=>exact⟨0,Nat.zero_le _,rfl,zH (World.ownsRow_nil _ _ _ _),HX,HL5,zH (fun g hg=>by simp[Value.ownBlock]at hg),zH (zn _)⟩
 case round=>
  clear HX HL5 q0 q1 q2 q3 q4 q5 q6;obtain⟨k,hk,rfl,HO,HX,HL5,HAP,HSZ⟩:=hrel;by_cases hlt:k<L.length
  ·obtain⟨ad,rfl,hab,hc0⟩:=HL5.out k (.int .i64 L[k]) (by rw[List.getElem?_map,List.getElem?_eq_getElem hlt];rfl);have hs:=q72 (m:=m) (b:=b) hlt;have hyl:(vN m b (L.take k)).length≤1000:=Nat.le_trans (q3h _ _ _) (by rw[List.length_take];omega);obtain⟨q,hq⟩:∃q,L[k]=q:=⟨_,rfl⟩
   rw[hq]at hs hc0;have p:=hc0;have HLT5:Hid (∀ad',some ad=some ad'→ad'.block<w5.heap.size):=zH (fun ad' e=>by injection e with e;subst e;exact hab);obtain⟨o,ho⟩:∃o,vb m.classes q b=o:=⟨_,rfl⟩
   rw[ho]at hs;have HSV:=zH ho;have HS:=zH hs;clear hs ho hq hab hc0;generalize vN m b (L.take k)=Y at*
   obtain⟨q0,q1,q2,q3,q4,q5,q6⟩:=HBX.out.keep HX.out HZ.out;have hszr:=HX.out.size;cases o with
   |none=>
    go_wp2_with(go_at_call 127;(with_reducible refine(q5v HIM HX HSV).mono ?_);rintro e w2 ⟨rfl,hb⟩;have HX2:=zH (HX.out.trans (hb.mono HX.out.size));have HL52:=zH ((HL5.out.below_to hb HSZ.out):zz w2 w5.heap.size (some ad) (L.map (Value.int .i64)));have HSZ2:Hid (w5.heap.size≤w2.heap.size):=zH (Nat.le_trans HSZ.out hb.size);have HO2:=zH (qG HO.out hb (qi HO.out));clear hb)
    go_roundw;case rel=>exact⟨k+1,by omega,by go_num,zH (by rw[HS.out,Option.toList_none,List.append_nil];exact HO2.out),HX2,HL52,HAP,HSZ2⟩
    case measure=>simp[intOf];omega
   |some g=>
    go_wp2_with(first
     |(go_at_call 127;(with_reducible refine(q5v HIM HX HSV).mono ?_);rintro e w2 ⟨rfl,hb⟩;have HX2:=zH (HX.out.trans (hb.mono HX.out.size));have HL52:=zH ((HL5.out.below_to hb HSZ.out):zz w2 w5.heap.size (some ad) (L.map (Value.int .i64)));have HSZ2:Hid (w5.heap.size≤w2.heap.size):=zH (Nat.le_trans HSZ.out hb.size);have HO2:=zH (qG HO.out hb (qi HO.out));have hsz2:=HX2.out.size;clear hb)
     |(at_builtin;refine wpList_append_lies _ rfl _ _ 26 rfl w1.heap.size 3 i0 (.int .i64 0) 1 8 Tryz.underlying26 hi hz0 hz1 hz2 rfl (by decide) _ _ _ rfl (HO2.out.alloc _) ⟨_,0,none⟩ 1 1 [.int .i64 g] rfl rfl (Vu _ _) (Vo _) (by decide) (by unfold maxLen;omega) (by omega) (by simp;omega) _ rfl ?_;intro g9 c9 w3 hown' hgrow hor hlt9;have hR:=Jt HO2.out hsz2 HX2.out hown' hgrow;have HO3:=zH hR.1;have HX3:=zH hR.2;have HL53:=zH (q41 HL52.out HSZ2.out hgrow HAP.out);have HAP3:Hid (QN (.slice (some ⟨g9,0,none⟩) (Y.length+1) c9) (some ad)):=zH (q1l HAP.out HLT5.out hor (by have:=HSZ2.out;simp;omega));have HSZ3:Hid (w5.heap.size≤w3.heap.size):=zH (by have h1:=hgrow.size;have h2:=HSZ2.out;simp at h1;omega);clear hown' hgrow hR hor hlt9))
    go_roundw;case rel=>exact⟨k+1,by omega,by go_num,zH (by rw[HS.out];exact HO3.out),HX3,HL53,HAP3,HSZ3⟩
    case measure=>simp[intOf];omega
  ·obtain rfl:k=L.length:=by omega
   go_wp2_with fail
   go_ret;rw[List.take_length]at HO;exact⟨_,rfl,jI HO.out HW.out.size,HW.out.trans (HX.out.mono HW.out.size)⟩
theorem qn1{m:za}{a b:Int}{L:List Int}{h:zl}{w0 w:World}(HI:Hid (zp w0 w0.heap.size h m))(HX:Hid (Below w0.heap.size w0 w))(hn:m.classes.length≤1000)(HL:Hid (vN m b (Ze m.classes a)=L)):
  Calls Tryz.prog 106 #[zr h m,.int .i64 a,.int .i64 b] w (vO L w):=by
 have H:=qiy m a b h w (HI.out.now HX.out) hn;rw[HL.out]at H;exact H
set_option maxHeartbeats 1600000 in
theorem qj7(m:za)(op a b:Int)(h:zl)(w:World)(H:zp w w.heap.size h m)(hn:m.classes.length≤1000):
  Calls Tryz.prog 87 #[zr h m,zF op a b] w (vO (qj m op a b) w):=by
 obtain⟨T,hT⟩:∃T,qj m op a b=T:=⟨_,rfl⟩
 rw[hT];have HT:=zH hT;clear hT;obtain⟨hq,hc,hb,hz⟩:=Va h m op a b w;have HW:=zH hb;have HC:=zH hc;have HZ:=zH hz;have HBX:=zH hq;have HIM:=zH (H.now hb);have hn1:=hn;clear hb hq hc hz H hn;go_enter Tryz.func87,Tryz.ntmps87;go_upto_region 1 with fail
 generalize(w.alloc (zq h m)).alloc (.cells #[.int .i64 op,.int .i64 a,.int .i64 b] 45)=w1 at*
 have HX0:Hid (Below w1.heap.size w1 w1):=zH (zb _ _);obtain⟨q0,q1,q2,q3,q4,q5,q6⟩:=HBX.out;have j0:=HC.out 0 _ rfl;have j1:=HC.out 1 _ rfl;have j2:=HC.out 2 _ rfl;by_cases h31:op=31
 ·subst h31;have e:[a]=T:=HT.out;subst e;go_wp2_with fail
  go_ret;have hb:Below w1.heap.size w1 (w1.alloc (.cells #[.int .i64 a] 3)):=(zb _ _).alloc (zn _) _;refine⟨_,rfl,⟨rfl,.inr ⟨w1.heap.size,1,#[.int .i64 a],rfl,HW.out.size,heap_alloc_new _ _,zn _,by unfold maxLen;omega,rfl,rfl⟩⟩,HW.out.trans (hb.mono HW.out.size)⟩
 ·by_cases h32:op=32
  ·subst h32;have HL:Hid (vN m b (Ze m.classes a)=T):=zH HT.out;go_wp2_with(go_at_call 106;(with_reducible refine(qn1 HIM HX0 hn1 HL).mono ?_);rintro e w5 ⟨v5,rfl,ho,hb⟩;have HO:=zH ho;have HX:=zH hb;clear hb ho)
   go_ret;exact⟨v5,rfl,jI HO.out HW.out.size,HW.out.trans (HX.out.mono HW.out.size)⟩
  ·have e:[]=T:=by have:=HT.out;unfold qj at this;rw[if_neg h31,if_neg h32]at this;exact this
   subst e;go_wp2_with fail
   go_ret;exact⟨_,rfl,World.ownsRow_nil _ _ _ _,HW.out⟩
theorem qn9{m:za}{op a b:Int}{L:List Int}{h:zl}{w0 w:World}(HI:Hid (zp w0 w0.heap.size h m))(HX:Hid (Below w0.heap.size w0 w))(hn:m.classes.length≤1000)(HL:Hid (qj m op a b=L)):
  Calls Tryz.prog 87 #[zr h m,zF op a b] w (vO L w):=by
 have H:=qj7 m op a b h w (HI.out.now HX.out) hn;rw[HL.out]at H;exact H
def QM(m:za)(cs:List (Int×Int×Int))(g:Nat):Bool:=cs.any fun i=>qc (qj m i.1 i.2.1 i.2.2) (g:Int)
theorem qhs{m:za}{cs:List (Int×Int×Int)}{t:Nat}(h:t<cs.length)(g:Nat):QM m (cs.take (t+1)) g=(QM m (cs.take t) g||qc (qj m cs[t].1 cs[t].2.1 cs[t].2.2) (g:Int)):=by
 unfold QM;rw[List.take_add_one,List.getElem?_eq_getElem h,List.any_append];simp
theorem qf9(m:za)(x:ze)(g:Nat):QM m x.code g=ZU m x (g:Int):=by
 unfold QM ZU;rw[Bool.eq_iff_iff];simp
theorem qjg{m:za}{x:ze}{k:Nat}(hk:k<m.methods.length)(hx:m.methods[k]=x):vh m (k:Int)=jC (fun g=>QM m x.code g) m.methods.length:=by
 have e:zm m (k:Int)=x:=by unfold zm;rw[Int.toNat_natCast,List.getElem?_eq_getElem hk,hx];rfl
 unfold vh;rw[if_pos ⟨by omega,by omega⟩,e,show jV m x m.methods.length=jC (fun g=>ZU m x (g:Int)) m.methods.length from rfl];exact qab fun g _=>(qf9 m x g).symm
theorem qou{l:List Int}{s:Nat}(h:s<l.length)(g:Int):qc (l.take (s+1)) g=(qc (l.take s) g||decide (g=l[s])):=by
 unfold qc;rw[Bool.eq_iff_iff,Bool.or_eq_true,decide_eq_true_eq,decide_eq_true_eq,decide_eq_true_eq,List.take_add_one,List.getElem?_eq_getElem h,List.mem_append];simp only[Option.toList_some,List.mem_singleton]
theorem qhv{w w':World}{A:Option Addr}{xs:List Value}{b:Nat}(h:zz w w.heap.size A xs)(hg:w.grownBy w' (some b))(hf:∀ad,A=some ad→ad.block≠b):zz w' w'.heap.size A xs:=fun j u hu=>by
 obtain⟨ad,e,hb,hc⟩:=h j u hu;refine⟨ad,e,Nat.lt_of_lt_of_le hb hg.size,?_⟩;have hk:(ad.add j).block=ad.block:=by rw[zt]
 exact(World.cell?_of_block (hg.block _ (by rw[hk];omega) (fun e'=>hf ad e (by injection e' with e';rw[hk]at e';exact e')))).trans hc
set_option maxHeartbeats 3200000 in
theorem qri(m:za)(f:Int)(h:zl)(w:World)(H:zp w w.heap.size h m)(hn:m.classes.length≤1000)(hml:m.methods.length≤1048576)(hc:∀x ∈m.methods,x.code.length≤1048576):
  Calls Tryz.prog 53 #[zr h m,.int .i64 f] w (vO (vh m f) w):=by
 by_cases hf:0≤f∧f<m.methods.length
 ·obtain⟨f0,f1⟩:=hf;obtain⟨k,rfl⟩:=Int.eq_ofNat_of_zero_le f0;have hk:k<m.methods.length:=by omega
  obtain⟨x,hx⟩:∃x,m.methods[k]=x:=⟨_,rfl⟩
  have hxc:=hc x (by rw[←hx];exact List.getElem_mem hk);have HPK:=zH (qjg hk hx);obtain⟨L,hL⟩:∃L,vh m (k:Int)=L:=⟨_,rfl⟩
  rw[hL]at HPK⊢
  have hle:=H.methods.le;have hcap:=H.methods.cap;obtain⟨ad,hx',eA,hab,hin,hcc⟩:=jB H hk;rw[hx]at hin hcc;obtain⟨A0,A1,A2,A3,A4,k0,k1,k2,k3,k4⟩:=h;obtain⟨A0x,A1x,A4x,A7x,k0x,k1x,k4x,k7x⟩:=hx';dsimp only at eA hcap hle;subst eA;have HN:=zH hn;have HW:=zH ((zb w.heap.size w).alloc (zn _) (zq ⟨A0,A1,A2,some ad,A4,k0,k1,k2,k3,k4⟩ m));have HIM:=zH (H.now HW.out);have HBX:=zH (qf w ⟨A0,A1,A2,some ad,A4,k0,k1,k2,k3,k4⟩ m);have HZ:Hid (w.heap.size<(w.alloc (zq ⟨A0,A1,A2,some ad,A4,k0,k1,k2,k3,k4⟩ m)).heap.size):=zH (by simp);have HAB:Hid ((ad.add (k*8)).block<(w.alloc (zq ⟨A0,A1,A2,some ad,A4,k0,k1,k2,k3,k4⟩ m)).heap.size):=zH (by rw[zt];simp;omega);have HMC:=zH (hcc.keep HW.out (by rw[zt];exact hab));have HIN:=zH (hin.now HW.out).code;have ccap:=hin.code.cap;have cle:=hin.code.le;have HR1:Hid ((decide (0≤(k:Int))&& decide ((k:Int)<m.methods.length))=true):=zH (by rw[decide_eq_true f0,decide_eq_true f1];rfl);dsimp only at ccap cle;have hmm:= @run_makeMap Tryz.prog;clear H hc hin hcc hn hab hx hL f0 f1;go_enter Tryz.func53,Tryz.ntmps53;go_upto_region 1 with fail
  generalize w.alloc (zq ⟨A0,A1,A2,some ad,A4,k0,k1,k2,k3,k4⟩ m)=w1 at*
  have HX0:Hid (Below w1.heap.size w1 w1):=zH (zb _ _);obtain⟨q0,q1,q2,q3,q4,q5,q6⟩:=HBX.out;dsimp only at q0 q1 q2 q3 q4 q5 q6;go_upto_region 4 with(go_at_call 86;(with_reducible refine(q12 HIM HX0 HR1).mono ?_);rintro e w2 ⟨rfl,hb⟩;have HX2:=zH hb;clear hb)
  clear q0 q1 q2 q3 q4 q5 q6;have HM0:=zH (jy.made w2 m.methods.length);have HX3:=zH (HX2.out.alloc HX2.out.size (.map #[] 0));have hB1:=HX2.out.size;generalize w2.alloc (.map #[] 0)=w3 at*
  generalize w2.heap.size=B at*
  obtain⟨q0,q1,q2,q3,q4,q5,q6⟩:=HBX.out.keep HX3.out HZ.out;dsimp only at q0 q1 q2 q3 q4 q5 q6;have c4:=(HMC.out.keep HX3.out HAB.out).c4;dsimp only at c4;go_wp2_with fail
  clear q0 q1 q2 q3 q4 q5 q6 c4;go_loopw [22] (fun i wr=>∃t:Nat,t≤x.code.length∧i= .int .i64 t∧Hid (jy wr B (fun g=>QM m (x.code.take t) g) m.methods.length)∧Hid (Below w1.heap.size w1 wr)) (fun i _=>x.code.length - (intOf i).toNat)
  case atStart=>exact⟨0,Nat.zero_le _,rfl,HM0,HX3⟩
  case round=>
   clear HM0 HX3 HX2;obtain⟨t,ht,rfl,HM,HX⟩:=hrel;by_cases hlt:t<x.code.length
   ·obtain⟨ac,rfl,hac,i0,i1,i2⟩:=HIN.out.row.at_ hlt;have HT1:=zH (qhs (m:=m) hlt);generalize x.code[t]=ins at*
    obtain⟨op,a,b⟩:=ins;dsimp only at i0 i1 i2 HT1;obtain⟨T,hT⟩:∃T,qj m op a b=T:=⟨_,rfl⟩
    have hTl:T.length≤1000:=by have:=q3e m op a b HN.out;rw[hT]at this;exact this
    have HTT:=zH hT;rw[hT]at HT1;clear hT;obtain⟨P,hP⟩:∃P,(fun g=>QM m (x.code.take t) g)=P:=⟨_,rfl⟩
    rw[hP]at HM;have HT2:Hid (∀g,QM m (x.code.take (t+1)) g=(P g||qc T (g:Int))):=zH (fun g=>by rw[HT1.out g,←hP]);clear HT1 hP;have hszr:=HX.out.size;have j0:=(HX.out.cell (p:=ac.add (t*3)) (by rw[zt];exact hac)).trans i0;have j1:=(HX.out.cell (p:=zc (ac.add (t*3)) 1) (by show(ac.add (t*3)).block<_;rw[zt];exact hac)).trans i1;have j2:=(HX.out.cell (p:=zc (ac.add (t*3)) 2) (by show(ac.add (t*3)).block<_;rw[zt];exact hac)).trans i2;clear i0 i1 i2 hac;go_upto_region 7 with fail
    clear j0 j1 j2;have HIB:=zH (qd wr [.int .i64 op,.int .i64 a,.int .i64 b] 45);have HA:Hid (Below wr.heap.size wr (wr.alloc (.cells ([.int .i64 op,.int .i64 a,.int .i64 b]:List Value).toArray 45))):=zH ((zb _ _).alloc (zn _) _);have HM4:=zH (HM.out.below HA.out HM.out.lt);have HX4:=zH (HX.out.trans (HA.out.mono hszr));generalize wr.alloc (.cells ([.int .i64 op,.int .i64 a,.int .i64 b]:List Value).toArray 45)=w4 at*
    have i0:=HIB.out 0 _ rfl;have i1:=HIB.out 1 _ rfl;have i2:=HIB.out 2 _ rfl;obtain⟨q0,q1,q2,q3,q4,q5,q6⟩:=HBX.out.keep HX4.out HZ.out;dsimp only at q0 q1 q2 q3 q4 q5 q6;have hB4:=HM4.out.lt;go_wp2_with(go_at_call 87;(with_reducible refine(qn9 HIM HX4 HN.out HTT).mono ?_);rintro e w5 ⟨v5,rfl,ho,hb⟩;have HM5:=zH (HM4.out.below hb HM4.out.lt);have HX5:=zH (HX4.out.trans (hb.mono HX4.out.size));obtain⟨A5,c5,rfl,hl5,g1,g2⟩:=kM ho;have HL5:=zH hl5;have HF5:Hid (∀ad,A5=some ad→ad.block≠B):=zH (fun ad e=>by have:=(ho.lt ad.block (by rw[e];rfl)).1;omega);clear hb ho hl5)
    clear q0 q1 q2 q3 q4 q5 q6 i0 i1 i2;go_loopw [30] (fun j wi=>∃s:Nat,s≤T.length∧j= .int .i64 s∧Hid (jy wi B (fun g=>P g||qc (T.take s) (g:Int)) m.methods.length)∧Hid (Below w1.heap.size w1 wi)∧Hid (zz wi wi.heap.size A5 (T.map (Value.int .i64)))) (fun j _=>T.length - (intOf j).toNat)
    case atStart=>exact⟨0,Nat.zero_le _,rfl,zH (HM5.out.cong (fun g _=>by rw[List.take_zero,qrc,Bool.or_false])),HX5,HL5⟩
    case round=>
     clear HM5 HX5 HL5;obtain⟨s,hs,rfl,HMi,HXi,HLi⟩:=hrel;by_cases hst:s<T.length
     ·obtain⟨a5,rfl,hab5,p5⟩:=HLi.out s (.int .i64 T[s]) (by rw[List.getElem?_map,List.getElem?_eq_getElem hst];rfl);have HSN:=zH (fun g:Nat=>qou hst (g:Int));generalize T[s]=q at*
      obtain⟨q0,q1,q2,q3,q4,q5,q6⟩:=HBX.out.keep HXi.out HZ.out;dsimp only at q0 q1 q2 q3 q4 q5 q6;clear hab5;by_cases hm:0≤q∧q<m.methods.length
      ·obtain⟨m0,m1⟩:=hm;obtain⟨g,rfl⟩:=Int.eq_ofNat_of_zero_le m0;have HR:Hid ((decide (0≤(g:Int))&& decide ((g:Int)<m.methods.length))=true):=zH (by rw[decide_eq_true m0,decide_eq_true m1];rfl);have hgm:g<m.methods.length:=by omega
       clear m0 m1;go_wp2_with(first
        |(go_at_call 86;(with_reducible refine(q12 HIM HXi HR).mono ?_);rintro e w6 ⟨rfl,hb⟩;have HM6:=zH (HMi.out.below hb HMi.out.lt);have HX6:=zH (HXi.out.trans (hb.mono HXi.out.size));have HL6:=zH ((HLi.out.below hb).more hb.size);clear hb)
        |(at_mapUpdate;refine q70 _ rfl _ _ _ 138 (.inl rfl) Tryz.underlying138 B m.methods.length g _ rfl HM6.out hgm hml rfl rfl ?_;intro w7 hm7 hg7;have HM7:=zH hm7;have HX7:=zH (HX6.out.grown hg7 HX6.out.size (fun j hj=>by injection hj with hj;omega));have HL7:=zH (qhv HL6.out hg7 HF5.out);clear hm7 hg7))
       go_roundw;case rel=>exact⟨s+1,by omega,by go_num,zH (HM7.out.cong (fun k _=>by rw[HSN.out k,←Bool.or_assoc];congr 1;exact decide_eq_decide.mpr (by omega))),HX7,HL7⟩
       case measure=>simp[intOf];omega
      ·have HR:Hid ((decide (0≤q)&& decide (q<m.methods.length))=false):=zH (by rw[Bool.eq_false_iff];simpa using hm);have HNQ:Hid (∀k:Nat,k<m.methods.length→decide ((k:Int)=q)=false):=zH (fun k hk=>decide_eq_false (by omega));clear hm;go_wp2_with(go_at_call 86;(with_reducible refine(q12 HIM HXi HR).mono ?_);rintro e w6 ⟨rfl,hb⟩;have HM6:=zH (HMi.out.below hb HMi.out.lt);have HX6:=zH (HXi.out.trans (hb.mono HXi.out.size));have HL6:=zH ((HLi.out.below hb).more hb.size);clear hb)
       go_roundw;case rel=>exact⟨s+1,by omega,by go_num,zH (HM6.out.cong (fun k hk=>by rw[HSN.out k,HNQ.out k hk,Bool.or_false])),HX6,HL6⟩
       case measure=>simp[intOf];omega
     ·obtain rfl:s=T.length:=by omega
      go_wp2_with fail
      go_roundw;case rel=>exact⟨t+1,by omega,by go_num,zH (HMi.out.cong (fun k _=>by rw[HT2.out k,List.take_length])),HXi⟩
      case measure=>simp[intOf];omega
   ·obtain rfl:t=x.code.length:=by omega
    have HL:Hid (jC (fun g=>QM m (x.code.take x.code.length) g) m.methods.length=L):=zH (by rw[List.take_length];exact HPK.out.symm);go_wp2_with(go_at_call 88;(with_reducible refine(qku HM hml HL).mono ?_);rintro e w9 ⟨v9,rfl,ho,hb⟩;have HO9:=zH ho;have HX9:=zH (HX.out.trans (hb.mono HX.out.size));have hz9:=HX.out.size;clear ho hb)
    go_ret;exact⟨v9,rfl,jI HO9.out (Nat.le_trans HW.out.size hz9),HW.out.trans (HX9.out.mono HW.out.size)⟩
 ·have HR1:Hid ((decide (0≤f)&& decide (f<m.methods.length))=false):=zH (by rw[Bool.eq_false_iff];simpa using hf);rw[qph hf];have HW:=zH ((zb w.heap.size w).alloc (zn _) (zq h m));have HIM:=zH (H.now HW.out);have HBX:=zH (qf w h m);clear H hf hc;go_enter Tryz.func53,Tryz.ntmps53;go_upto_region 1 with fail
  generalize w.alloc (zq h m)=w1 at*
  have HX0:Hid (Below w1.heap.size w1 w1):=zH (zb _ _);obtain⟨q0,q1,q2,q3,q4,q5,q6⟩:=HBX.out;go_wp2_with(go_at_call 86;(with_reducible refine(q12 HIM HX0 HR1).mono ?_);rintro e w2 ⟨rfl,hb⟩;have HX2:=zH hb;clear hb)
  go_ret;exact⟨_,rfl,World.ownsRow_nil _ _ _ _,HW.out.trans (HX2.out.mono HW.out.size)⟩
theorem qrj(m:za)(f:Int)(h:zl)(w:World)(H:zp w w.heap.size h m)(hn:m.classes.length≤1000)(hml:m.methods.length≤1048576)(hc:∀x ∈m.methods,x.code.length≤1048576):
  Calls Tryz.prog 53 #[zr h m,.int .i64 f] w fun e w'=>∃A c,e= .returned (.slice A (vh m f).length c)∧zd zo 1 w' w'.heap.size A c (vh m f)∧(∀ad,A=some ad→w.heap.size≤ad.block)∧Below w.heap.size w w':=
 (qri m f h w H hn hml hc).mono fun e w' hO=>by
  obtain⟨v,rfl,ho,hb⟩:=hO;obtain⟨A,c,rfl,hl,h1,h2⟩:=kM ho;exact⟨A,c,rfl,⟨h1,h2,fun i x hi=>by
   obtain⟨ad,e,hb,hc⟩:=hl i (.int .i64 x) (by rw[List.getElem?_map,hi];rfl);exact⟨ad,e,hb,by show w'.cell? (ad.add (i*1))=_;rw[Nat.mul_one];exact hc⟩⟩,fun ad e=>(ho.lt ad.block (by rw[e];rfl)).1,hb⟩
theorem qd3{m:za}{f:Int}{h:zl}{w0 w:World}{L:List Int}(HI:Hid (zp w0 w0.heap.size h m))(HX:Hid (Below w0.heap.size w0 w))(HC:Hid (m.classes.length≤1000∧m.methods.length≤1048576∧∀x ∈m.methods,x.code.length≤1048576))(HR:Hid (vh m f=L)):
  Calls Tryz.prog 53 #[zr h m,.int .i64 f] w fun e w'=>∃A c,e= .returned (.slice A L.length c)∧zd zo 1 w' w'.heap.size A c L∧(∀ad,A=some ad→w.heap.size≤ad.block)∧Below w.heap.size w w':=by
 have H:=qrj m f h w (HI.out.now HX.out) HC.out.1 HC.out.2.1 HC.out.2.2;rw[HR.out]at H;exact H
def JQ(op a b:Int):ze:=⟨[],[],(0,0),[(op,a,b)],0,0,[]⟩
def jp(m:za)(op a b:Int):za:={m with methods:=m.methods++[JQ op a b]}
theorem q07(m:za)(op a b:Int):(jp m op a b).methods.length=m.methods.length+1:=by simp[jp]
theorem qcp{m:za}{op a b:Int}{t:Nat}(h:t<m.methods.length):zm (jp m op a b) (t:Int)=zm m (t:Int):=by
 unfold zm jp;dsimp only;rw[Int.toNat_natCast,List.getElem?_append_left h]
theorem qkb(m:za)(op a b:Int):zm (jp m op a b) (m.methods.length:Int)=JQ op a b:=by
 unfold zm jp;dsimp only;rw[Int.toNat_natCast,List.getElem?_append_right (zn _),Nat.sub_self];rfl
theorem q71(m:za)(op a b x y z:Int):qj (jp m op a b) x y z=qj m x y z:=rfl
theorem q8x{m:za}(L:List Int):(∀t ∈L,(zm m t).pot≤jq m L)∧0≤jq m L∧(jq m L=0∨∃t ∈L,(zm m t).pot=jq m L):=by
 have H:∀(L:List Int) (p:Int),(∀t ∈L,(zm m t).pot≤L.foldl (jS m) p)∧p≤L.foldl (jS m) p∧(L.foldl (jS m) p=p∨∃t ∈L,(zm m t).pot=L.foldl (jS m) p):=by
  intro L
  induction L with
  |nil=>intro p;exact⟨(fun t ht=>nomatch ht),Int.le_refl _,.inl rfl⟩
  |cons a L ih=>
   intro p;obtain⟨h1,h2,h3⟩:=ih (jS m p a);have hp:p≤jS m p a∧(zm m a).pot≤jS m p a∧(jS m p a=p∨jS m p a=(zm m a).pot):=by
    unfold jS;split<;>omega
   rw[List.foldl_cons];refine⟨fun t ht=> ?_,by omega,?_⟩
   ·rcases List.mem_cons.mp ht with rfl|ht
    ·omega
    ·exact h1 t ht
   ·rcases h3 with h3|⟨t,ht,h3⟩
    ·rcases hp.2.2 with h4|h4
     ·exact .inl (h3.trans h4)
     ·exact .inr ⟨a,List.mem_cons_self,by rw[h3,h4]⟩
    ·exact .inr ⟨t,List.mem_cons_of_mem _ ht,h3⟩
 exact H L 0
theorem qec{m x:za}{L M:List Int}(h1:∀t ∈L,t ∈M)(h2:∀t ∈M,t ∈L)(hp:∀t ∈L,(zm x t).pot=(zm m t).pot):jq x L=jq m M:=by
 obtain⟨a1,a2,a3⟩:=q8x (m:=x) L;obtain⟨b1,b2,b3⟩:=q8x (m:=m) M;refine Int.le_antisymm ?_ ?_
 ·rcases a3 with a3|⟨t,ht,a3⟩
  ·omega
  ·have:=b1 t (h1 t ht);have:=hp t ht;omega
 ·rcases b3 with b3|⟨t,ht,b3⟩
  ·omega
  ·have:=a1 t (h2 t ht);have:=hp t (h2 t ht);omega
theorem q1b{m:za}{op a b:Int}(ht:∀t ∈qj m op a b,0≤t∧t<m.methods.length)(g:Int):g ∈vh (jp m op a b) (m.methods.length:Int)↔g ∈qj m op a b:=by
 unfold vh;rw[if_pos ⟨by omega,by rw[q07];omega⟩,qkb,q07];unfold jV;rw[List.mem_map];constructor
 ·rintro⟨k,hk,rfl⟩;rw[List.mem_filter]at hk;have:=hk.2;simp[ZU,qc,JQ,q71]at this;first|exact this|exact of_decide_eq_true this
 ·intro hg;obtain⟨h0,h1⟩:=ht g hg;refine⟨g.toNat,?_,by omega⟩;rw[List.mem_filter,List.mem_range];refine⟨by omega,?_⟩;rw[show((g.toNat:Nat):Int)=g by omega];simp[ZU,qc,JQ,q71];first|exact hg|exact decide_eq_true hg
theorem qka{m:za}{op a b:Int}(ht:∀t ∈qj m op a b,0≤t∧t<m.methods.length):jq (jp m op a b) (vh (jp m op a b) (m.methods.length:Int))=jq m (qj m op a b):=
 qec (fun t h=>(q1b ht t).mp h) (fun t h=>(q1b ht t).mpr h) fun t h=>by
  obtain⟨h0,h1⟩:=ht t ((q1b ht t).mp h);obtain⟨k,rfl⟩:=Int.eq_ofNat_of_zero_le h0;rw[qcp (by omega)]
theorem qas:(Tryz.prog.info? 42).map (fun i=>(i.zero.map (fun z=>z.cells.size),i.size,i.bytes))=some (some 8,8,128):=by kernel_rfl
theorem q9c{P:Program}{t:TypeId}{k b:Nat}(h:(P.info? t).map (fun i=>(i.zero.map (fun z=>z.cells.size),i.size,i.bytes))=some (some k,k,b)):∃i z,P.info? t=some i∧i.zero=some z∧z.cells.size=k∧i.size=k∧i.bytes=b:=by
 cases hi:P.info? t with
 |none=>rw[hi]at h;simp at h
 |some i=>
  rw[hi]at h;simp only[Option.map_some,Option.some.injEq,Prod.mk.injEq]at h;cases hz:i.zero with
  |none=>rw[hz]at h;simp at h
  |some z=>rw[hz]at h;simp at h;exact⟨i,z,rfl,hz,h.1,h.2.1,h.2.2⟩
def qdm(zs:List (ze×zS))(n:Nat)(w:World)(e:Ending)(w':World):Prop:=∃gi ci,e= .returned (.slice (some ⟨gi,0,none⟩) n ci)∧w'.ownsRow w.heap.size 42 8 (.slice (some ⟨gi,0,none⟩) n ci) n (qU zs)∧Below w.heap.size w w'
theorem qhd(zs:List (ze×zS))(n:Nat)(ad:Addr)(c B:Nat)(w:World)(hn:zs.length=n)(h:zz w B (some ad) (qU zs))(hB:B≤w.heap.size)(h0:0<n)(hl:n≤1048576):
  Calls Tryz.prog 52 #[.slice (some ad) n c] w (qdm zs n w):=by
 have hq:=fun w=>Lib.run_eql_slice_nil (P:=Tryz.prog) w 25 42 (some ad) n c 0 0 Tryz.underlying25;obtain⟨ti,z0,hti,ht0,ht1,ht2,ht3⟩:=q9c qas;have HXE:Hid (Below w.heap.size w (w.alloc (.cells #[] 42))):=zH ((zb _ _).alloc (zn _) _);have HT:=zH (h.below_to HXE.out hB);have HN:=zH hn;clear h hn;go_enter Tryz.func52,Tryz.ntmps52;go_wp2_with(at_builtin;go_loud (refine ja rfl _ _ 25 rfl w.heap.size 42 ti z0 8 128 Tryz.underlying25 hti ht0 ht2 ht3 ht1 (by decide) _ 0 [] rfl (ka w 42 8) (some ad) n c _ (qU zs) (by rw[q5r,HN.out]) rfl HT.out (q5q _) (by unfold maxLen;omega) (by omega) (by simp) ?_);intro v6 w6 hown hgrow;have HX6:=zH (qA HXE.out (ka w 42 8) (by simp) hgrow);have HO6:Hid (w6.ownsRow w.heap.size 42 8 v6 n (qU zs)):=zH (by simpa using hown);clear hown hgrow)
 go_ret;rcases jA HO6.out with⟨_,hn⟩|⟨g,ca,rfl,_,_⟩
 ·omega
 ·exact⟨g,ca,rfl,HO6.out,HX6.out⟩
theorem Vd{zs:List (ze×zS)}{n:Nat}{ad:Addr}{c B:Nat}{w0 w:World}(hn:Hid (zs.length=n))(h:Hid (zz w0 B (some ad) (qU zs)))(HX:Hid (Below w0.heap.size w0 w))(hB:Hid (B≤w0.heap.size))(h0:Hid (0<n))(hl:Hid (n≤1048576)):
  Calls Tryz.prog 52 #[.slice (some ad) n c] w (qdm zs n w):=
 qhd zs n ad c B w hn.out (h.out.below_to HX.out hB.out) (Nat.le_trans hB.out HX.out.size) h0.out hl.out
def zN(m:za)(x:ze)(op a b:Int):List (Int×Int):=
 if op=4 then [qB x a]else if op=5∨op=6 then [(6,0)]else if op=19∨op=23 then [(1,0)]else if op=20 then [(7,0)]else if op=21 then [(7,0),(7,0)]else
 if op=24 then [(2,0),(1,0)]else if op=25 then [(2,0),(1,0),(1,0)]else if op=26 then [(2,0)]else if op=27 then [(3,a)]else if op=28 then [(3,a),ZB m a b]else
 if op=30 then [Zt m a]else if op=31 then(zm m a).args else if op=32 then(3,a)::(zm m (kt m a b)).args.drop 1 else if op=33 then jd x else if op=34 then [(8,0)]else
 if 7≤op∧op≤17 then [(1,0),(1,0)]else []
def zY(m:za)(x:ze)(op a b:Int)(tk:List (Int×Int)):List (Int×Int):=if op=6 then tk++tk else zB m x op a b
abbrev qP(h:zl)(m:za)(op a b:Int)(w:World):World:=(qD h m op a b w).alloc (.cells #[.int .i64 op,.int .i64 a,.int .i64 b] 45)
structure q6e(w2:World)(N:Nat)(h:zl)(m:za)(op a b:Int):Prop where
 img:Zl w2 N h m
 ins:zT w2 (N+1) [.int .i64 op,.int .i64 a,.int .i64 b]
 fn:zT w2 (N+1+1) [.int .i64 op,.int .i64 a,.int .i64 b]
 size:w2.heap.size=N+1+1+1
theorem qV(h:zl)(m:za)(op a b:Int)(w:World):Below w.heap.size w (qP h m op a b w)∧q6e (qP h m op a b w) w.heap.size h m op a b:=by
 obtain⟨h0,h1⟩:=q4f h m op a b w;obtain⟨c1,z1,b1⟩:=km h1.size [.int .i64 op,.int .i64 a,.int .i64 b] 45;exact⟨h0.trans (b1.mono (by omega)),h1.img.keep b1 (by omega),h1.ins.keep b1 (by omega),c1,z1⟩
theorem q6e.fnlt{w2:World}{N:Nat}{h:zl}{m:za}{op a b:Int}(H:q6e w2 N h m op a b):N+1+1<w2.heap.size:=by have:=H.size;omega
theorem qW{h:zl}{m:za}{op a b:Int}{w:World}:Calls Tryz.prog 109 #[zF op a b] (qD h m op a b w) fun e w'=>e= .returned (mkF (w.heap.size+1+1))∧w'=qP h m op a b w:=by
 refine(qig op a b _).mono ?_;rintro e w' ⟨rfl,rfl⟩;refine⟨?_,rfl⟩;have hz:(qD h m op a b w).heap.size=w.heap.size+1+1:=by simp
 rw[hz]
theorem qm9{w:World}{g:Nat}{p q r:Int}(hg:g<w.heap.size)(h0:w.cell? ⟨g,0,none⟩=some (.int .i64 p))(h1:w.cell? ⟨g,1,none⟩=some (.int .i64 q))(h2:w.cell? ⟨g,2,none⟩=some (.int .i64 r)):zd zo 1 w w.heap.size (some ⟨g,0,none⟩) 3 [p,q,r]:=
 ⟨zn _,by show 3≤9223372036854775807;omega,fun i t hi=>by
  match i,hi with
  |0,hi=>simp at hi;subst hi;exact⟨_,rfl,hg,h0⟩
  |1,hi=>simp at hi;subst hi;exact⟨_,rfl,hg,(show w.cell? _=_ by simpa[Addr.add]using h1)⟩
  |2,hi=>simp at hi;subst hi;exact⟨_,rfl,hg,(show w.cell? _=_ by simpa[Addr.add]using h2)⟩
  |i+3,hi=>simp at hi⟩
def kN(w0:World)(L:List (Int×Int))(e:Ending)(w':World):Prop:=∃v,e= .returned v∧w'.ownsRow w0.heap.size 39 2 v L.length (zD L)∧Below w0.heap.size w0 w'
theorem kN.some_{w w0:World}{L:List (Int×Int)}{e:Ending}{w':World}(h:kN w0 L e w')(hb:Below w.heap.size w w0):qn L w e w':=by
 obtain⟨v,rfl,ho,hx⟩:=h;obtain⟨A,c,rfl,hs,_⟩:=vy ho;exact⟨A,c,rfl,hs,hb.trans (hx.mono hb.size)⟩
theorem q69{k0 op a b:Int}{N:Nat}{w0 w:World}{L:List (Int×Int)}(HL:Hid (zX a [k0]=L))(HN:Hid (N<w0.heap.size))(HC:Hid (zT w0 N [.int .i64 op,.int .i64 a,.int .i64 b]))(HX:Hid (Below w0.heap.size w0 w)):
  Calls Tryz.prog 130 #[.slice (some ⟨w.heap.size,0,none⟩) 1 1,.pointer (some ⟨N,0,none⟩)] (w.alloc (.cells #[.int .i64 k0] 3)) (kN w0 L):=by
 have hA:=HX.out.alloc HX.out.size (.cells #[.int .i64 k0] 3);refine(q2w (ks:=[k0]) HL (Nat.lt_of_lt_of_le HN.out hA.size) (HC.out.keep hA HN.out) (QD (by simp) (by go_simp)) (by simp)).mono ?_;rintro e w' ⟨v,rfl,ho,hb⟩;exact⟨v,rfl,jI ho hA.size,hA.trans (hb.mono hA.size)⟩
theorem qd2{k0 k1 op a b:Int}{N:Nat}{w0 w:World}{L:List (Int×Int)}(HL:Hid (zX a [k0,k1]=L))(HN:Hid (N<w0.heap.size))(HC:Hid (zT w0 N [.int .i64 op,.int .i64 a,.int .i64 b]))(HX:Hid (Below w0.heap.size w0 w)):
  Calls Tryz.prog 130 #[.slice (some ⟨w.heap.size,0,none⟩) 2 2,.pointer (some ⟨N,0,none⟩)] (w.alloc (.cells #[.int .i64 k0,.int .i64 k1] 3)) (kN w0 L):=by
 have hA:=HX.out.alloc HX.out.size (.cells #[.int .i64 k0,.int .i64 k1] 3);refine(q2w (ks:=[k0,k1]) HL (Nat.lt_of_lt_of_le HN.out hA.size) (HC.out.keep hA HN.out) (qcz (by simp) (by go_simp) (by go_simp)) (by simp)).mono ?_;rintro e w' ⟨v,rfl,ho,hb⟩;exact⟨v,rfl,jI ho hA.size,hA.trans (hb.mono hA.size)⟩
theorem qrf{k0 k1 k2 op a b:Int}{N:Nat}{w0 w:World}{L:List (Int×Int)}(HL:Hid (zX a [k0,k1,k2]=L))(HN:Hid (N<w0.heap.size))(HC:Hid (zT w0 N [.int .i64 op,.int .i64 a,.int .i64 b]))(HX:Hid (Below w0.heap.size w0 w)):
  Calls Tryz.prog 130 #[.slice (some ⟨w.heap.size,0,none⟩) 3 3,.pointer (some ⟨N,0,none⟩)] (w.alloc (.cells #[.int .i64 k0,.int .i64 k1,.int .i64 k2] 3)) (kN w0 L):=by
 have hA:=HX.out.alloc HX.out.size (.cells #[.int .i64 k0,.int .i64 k1,.int .i64 k2] 3);refine(q2w (ks:=[k0,k1,k2]) HL (Nat.lt_of_lt_of_le HN.out hA.size) (HC.out.keep hA HN.out) (qm9 (by simp) (by go_simp) (by go_simp) (by go_simp)) (by simp)).mono ?_;rintro e w' ⟨v,rfl,ho,hb⟩;exact⟨v,rfl,jI ho hA.size,hA.trans (hb.mono hA.size)⟩
theorem qc5{k op a b:Int}{N:Nat}{w0:World}{L:List (Int×Int)}(HL:Hid (zX a [k]=L))(HN:Hid (N<w0.heap.size))(HC:Hid (zT w0 N [.int .i64 op,.int .i64 a,.int .i64 b])):
  Calls Tryz.prog 130 #[.slice (some ⟨w0.heap.size,0,none⟩) 1 1,.pointer (some ⟨N,0,none⟩)] (w0.alloc (.cells #[.int .i64 k] 3)).drew (kN w0 L):=by
 have hA:=((zb w0.heap.size w0).alloc (zn _) (.cells #[.int .i64 k] 3)).drew;refine(q2w (ks:=[k]) HL (Nat.lt_of_lt_of_le HN.out hA.size) (HC.out.keep hA HN.out) (QD (by simp) (by go_simp)) (by simp)).mono ?_;rintro e w' ⟨v,rfl,ho,hb⟩;exact⟨v,rfl,jI ho hA.size,hA.trans (hb.mono hA.size)⟩
theorem ftk_4(m:za)(x:ze)(f:Nat)(a b:Int)(hx:m.methods[f]? =some x)(ha:a≤9223372036854775807)(h:zl)(w:World)(H:zp w w.heap.size h m):
  Calls Tryz.prog 93 #[zr h m,zF 4 a b,.int .i64 f] w (qn (zN m x 4 a b) w):=by
 have e1:zN m x 4 a b=[qB x a]:=by simp[zN]
 rw[e1];clear e1;obtain⟨t,ht⟩:∃t,qB x a=t:=⟨_,rfl⟩
 have HT:=zH ht;rw[ht];clear ht;obtain⟨hw,hp⟩:=qV h m 4 a b w;have HW:=zH hw;have HP:=zH hp;have HI:=zH (H.now hw);clear hw hp H;go_enter Tryz.func93,Tryz.ntmps93;go_upto_region 1 with fail
 change Code.wp _ _ _ _ (qD h m 4 a b w);go_upto_region 2 with(go_at_call 109;(refine(qW (h:=h) (m:=m) (w:=w)).mono ?_);rintro e w2 ⟨rfl,rfl⟩)
 generalize qP h m 4 a b w=w2 at*
 have HX:Hid (Below w2.heap.size w2 w2):=zH (zb _ _);have HN:=zH HP.out.fnlt;have HC:=zH HP.out.fn;obtain⟨q0,q1,q2,q3,q4,q5,q6⟩:=HP.out.img;obtain⟨o0,o1,o2⟩:=zJ HP.out.ins;go_wp2_with(go_at_call 110;(with_reducible refine(qaw HI HX hx ha HT).mono ?_);rintro e w3 ⟨rfl,hb⟩;have HX3:=zH hb;clear hb)
 go_ret;exact⟨_,_,rfl,vi (by simp) (by go_simp) (by go_simp),HW.out.trans ((HX3.out.alloc HX3.out.size _).mono HW.out.size)⟩
theorem ftk_30(m:za)(x:ze)(f:Nat)(j:Nat)(b:Int)(t:Int×Int)(hs:m.statics[j]? =some t)(h:zl)(w:World)(H:zp w w.heap.size h m):
  Calls Tryz.prog 93 #[zr h m,zF 30 (j:Int) b,.int .i64 f] w (qn (zN m x 30 (j:Int) b) w):=by
 have e0:Zt m (j:Int)=t:=by unfold Zt;rw[Int.toNat_natCast,hs];rfl
 have e1:zN m x 30 (j:Int) b=[t]:=by simp[zN,e0]
 rw[e1];clear e1;have HS:=zH hs;clear hs e0;obtain⟨hw,hp⟩:=qV h m 30 (j:Int) b w;have HW:=zH hw;have HP:=zH hp;have HI:=zH (H.now hw);clear hw hp H;go_enter Tryz.func93,Tryz.ntmps93;go_upto_region 1 with fail
 change Code.wp _ _ _ _ (qD h m 30 (j:Int) b w);go_upto_region 2 with(go_at_call 109;(refine(qW (h:=h) (m:=m) (w:=w)).mono ?_);rintro e w2 ⟨rfl,rfl⟩)
 generalize qP h m 30 (j:Int) b w=w2 at*
 have HX:Hid (Below w2.heap.size w2 w2):=zH (zb _ _);have HN:=zH HP.out.fnlt;have HC:=zH HP.out.fn;obtain⟨q0,q1,q2,q3,q4,q5,q6⟩:=HP.out.img;obtain⟨o0,o1,o2⟩:=zJ HP.out.ins;go_wp2_with(go_at_call 112;(with_reducible refine(q9h HI HX HS).mono ?_);rintro e w3 ⟨rfl,hb⟩;have HX3:=zH hb;clear hb)
 go_ret;exact⟨_,_,rfl,vi (by simp) (by go_simp) (by go_simp),HW.out.trans ((HX3.out.alloc HX3.out.size _).mono HW.out.size)⟩
theorem ftk_31(m:za)(x:ze)(f:Nat)(j:Nat)(b:Int)(y:ze)(hy:m.methods[j]? =some y)(h:zl)(w:World)(H:zp w w.heap.size h m):
  Calls Tryz.prog 93 #[zr h m,zF 31 (j:Int) b,.int .i64 f] w (qn (zN m x 31 (j:Int) b) w):=by
 have e0:zm m (j:Int)=y:=by unfold zm;rw[Int.toNat_natCast,hy];rfl
 have e1:zN m x 31 (j:Int) b=y.args:=by simp[zN,e0]
 rw[e1];clear e1;clear e0;obtain⟨hw,hp⟩:=qV h m 31 (j:Int) b w;have HW:=zH hw;have HP:=zH hp;have HI:=zH (H.now hw);clear hw hp H;go_enter Tryz.func93,Tryz.ntmps93;go_upto_region 1 with fail
 change Code.wp _ _ _ _ (qD h m 31 (j:Int) b w);go_upto_region 2 with(go_at_call 109;(refine(qW (h:=h) (m:=m) (w:=w)).mono ?_);rintro e w2 ⟨rfl,rfl⟩)
 generalize qP h m 31 (j:Int) b w=w2 at*
 have HX:Hid (Below w2.heap.size w2 w2):=zH (zb _ _);have HN:=zH HP.out.fnlt;have HC:=zH HP.out.fn;obtain⟨q0,q1,q2,q3,q4,q5,q6⟩:=HP.out.img;obtain⟨o0,o1,o2⟩:=zJ HP.out.ins;go_wp2_with(go_at_call 113;(with_reducible refine(qc8 HI HX hy).mono ?_);rintro e w3 ⟨A3,c3,rfl,hs3,hb⟩;have HX3:=zH hb;have HS3:=zH hs3;clear hb hs3)
 go_ret;exact⟨_,_,rfl,HS3.out,HW.out.trans (HX3.out.mono HW.out.size)⟩
theorem ftk_33(m:za)(x:ze)(f:Nat)(a b:Int)(hx:m.methods[f]? =some x)(h:zl)(w:World)(H:zp w w.heap.size h m):
  Calls Tryz.prog 93 #[zr h m,zF 33 a b,.int .i64 f] w (qn (zN m x 33 a b) w):=by
 have e1:zN m x 33 a b=jd x:=by simp[zN]
 rw[e1];clear e1;obtain⟨hw,hp⟩:=qV h m 33 a b w;have HW:=zH hw;have HP:=zH hp;have HI:=zH (H.now hw);clear hw hp H;go_enter Tryz.func93,Tryz.ntmps93;go_upto_region 1 with fail
 change Code.wp _ _ _ _ (qD h m 33 a b w);go_upto_region 2 with(go_at_call 109;(refine(qW (h:=h) (m:=m) (w:=w)).mono ?_);rintro e w2 ⟨rfl,rfl⟩)
 generalize qP h m 33 a b w=w2 at*
 have HX:Hid (Below w2.heap.size w2 w2):=zH (zb _ _);have HN:=zH HP.out.fnlt;have HC:=zH HP.out.fn;obtain⟨q0,q1,q2,q3,q4,q5,q6⟩:=HP.out.img;obtain⟨o0,o1,o2⟩:=zJ HP.out.ins;go_wp2_with(go_at_call 116;(with_reducible refine(q48 HI HX hx).mono ?_);rintro e w3 ⟨A3,c3,rfl,hs3,hb⟩;have HX3:=zj HX hb;have HS3:=zH hs3;clear hb hs3)
 go_ret;exact⟨_,_,rfl,HS3.out,HW.out.trans (HX3.out.mono HW.out.size)⟩
set_option maxHeartbeats 1600000 in
theorem ftk_28(m:za)(x:ze)(f:Nat)(a:Int)(k:Nat)(t:Int×Int)(hk:(qS m.classes a)[k]? =some t)(hn:m.classes.length≤1000)(hf:∀x ∈m.classes,x.fields.length≤1000)(h:zl)(w:World)(H:zp w w.heap.size h m):
  Calls Tryz.prog 93 #[zr h m,zF 28 a (k:Int),.int .i64 f] w (qn (zN m x 28 a (k:Int)) w):=by
 have e0:ZB m a (k:Int)=t:=by unfold ZB;rw[Int.toNat_natCast,hk];rfl
 have e1:zN m x 28 a (k:Int)=[(3,a),t]:=by simp[zN,e0]
 rw[e1];clear e1;have HL:Hid (zX a [3]=[(3,a)]):=zH (by simp[zX,jG]);have HK:=zH hk;have HF:=zH hf;clear hk hf e0;obtain⟨i0,hi,hz0,hz1,hz2⟩:=jg kK;obtain⟨hw,hp⟩:=qV h m 28 a (k:Int) w;have HW:=zH hw;have HP:=zH hp;have HI:=zH (H.now hw);clear hw hp H;go_enter Tryz.func93,Tryz.ntmps93;go_upto_region 1 with fail
 change Code.wp _ _ _ _ (qD h m 28 a (k:Int) w);go_upto_region 2 with(go_at_call 109;(refine(qW (h:=h) (m:=m) (w:=w)).mono ?_);rintro e w2 ⟨rfl,rfl⟩)
 generalize qP h m 28 a (k:Int) w=w2 at*
 have HX:Hid (Below w2.heap.size w2 w2):=zH (zb _ _);have HN:=zH HP.out.fnlt;have HC:=zH HP.out.fn;obtain⟨q0,q1,q2,q3,q4,q5,q6⟩:=HP.out.img;obtain⟨o0,o1,o2⟩:=zJ HP.out.ins;go_wp2_with fail
 have HXD:Hid (Below w2.heap.size w2 w2.drew):=zH (zb _ _).drew;have HKP:Hid (∀W,Below w2.heap.size w2 W→(fun w'=>w'.cell? ⟨w.heap.size,0,none⟩=some (.slice h.A0 m.classes.length h.c0)∧w'.cell? ⟨w.heap.size,1,none⟩=some (.slice h.A1 m.statics.length h.c1)∧w'.cell? ⟨w.heap.size,2,none⟩=some (.slice h.A2 m.ints.length h.c2)∧w'.cell? ⟨w.heap.size,3,none⟩=some (.slice h.A3 m.methods.length h.c3)∧w'.cell? ⟨w.heap.size,4,none⟩=some (.slice h.A4 m.entries.length h.c4)∧w'.cell? ⟨w.heap.size,5,none⟩=some (.int .i64 m.stack)∧w'.cell? ⟨w.heap.size,6,none⟩=some (.int .i64 m.heap)∧w'.cell? ⟨w.heap.size+1,0,none⟩=some (.int .i64 28)∧w'.cell? ⟨w.heap.size+1,1,none⟩=some (.int .i64 a)∧w'.cell? ⟨w.heap.size+1,2,none⟩=some (.int .i64 (k:Int))) W):=zH (fun W hW=>by
  have hz:=HP.out.size;obtain⟨d0,d1,d2,d3,d4,d5,d6⟩:=HP.out.img.keep hW (by omega);have di:=HP.out.ins.keep hW (by omega);exact⟨d0,d1,d2,d3,d4,d5,d6,di 0 _ rfl,di 1 _ rfl,di 2 _ rfl⟩)
 clear q0 q1 q2 q3 q4 q5 q6 o0 o1 o2;refine wp_region_noPanic ?_;refine wp_region_held_drew (S:=(fun w'=>w'.cell? ⟨w.heap.size,0,none⟩=some (.slice h.A0 m.classes.length h.c0)∧w'.cell? ⟨w.heap.size,1,none⟩=some (.slice h.A1 m.statics.length h.c1)∧w'.cell? ⟨w.heap.size,2,none⟩=some (.slice h.A2 m.ints.length h.c2)∧w'.cell? ⟨w.heap.size,3,none⟩=some (.slice h.A3 m.methods.length h.c3)∧w'.cell? ⟨w.heap.size,4,none⟩=some (.slice h.A4 m.entries.length h.c4)∧w'.cell? ⟨w.heap.size,5,none⟩=some (.int .i64 m.stack)∧w'.cell? ⟨w.heap.size,6,none⟩=some (.int .i64 m.heap)∧w'.cell? ⟨w.heap.size+1,0,none⟩=some (.int .i64 28)∧w'.cell? ⟨w.heap.size+1,1,none⟩=some (.int .i64 a)∧w'.cell? ⟨w.heap.size+1,2,none⟩=some (.int .i64 (k:Int)))) (by kernel_rfl) (HKP.out _ HXD.out) (fun hHeld=> ?_);refine mT 0 (h:=mT 3 (h:=mT 4 (h:= ?_)));refine wpAnyH_ready (rs:=[1]) (by kernel_rfl) (by simp) ?_;refine AllReadyH.cons (o:=_) rfl (fun K hK=> ?_) AllReadyH.nil;go_simp;refine hK.out _ _ (HKP.out _ (HXD.out.alloc HXD.out.size _)) (fun hHeld=> ?_);clear hK K;try simp only[sA,sB,sC,Act.put,sD,sE,sF]
 refine wpAnyH_ready (rs:=[2]) (by kernel_rfl) (by simp) ?_;refine AllReadyH.cons (o:=_) rfl (fun K hK=> ?_) AllReadyH.nil;go_simp;go_wp2_with(go_at_call 130;(with_reducible refine(qc5 HL HN HC).mono ?_);rintro e w3 ⟨v3,rfl,ho3,hb3⟩;have HO3:=zH ho3;have HX3:=zH hb3;clear ho3 hb3)
 refine hK.out _ _ (HKP.out _ HX3.out) (fun hHeld=> ?_);clear hK K;try simp only[sA,sB,sC,Act.put,sD,sE,sF]
 refine wpAnyH_ready (rs:=[5]) (by kernel_rfl) (by simp) ?_;refine AllReadyH.cons (o:=_) rfl (fun K hK=> ?_) AllReadyH.nil;go_simp;go_wp2_with(go_at_call 111;(with_reducible refine(qax HI HX3 HK hn HF).mono ?_);rintro e w4 ⟨rfl,hb⟩;have HX4:=zj HX3 hb;have HO4:=zH (qG HO3.out hb (qi HO3.out));clear hb)
 refine hK.out _ _ (HKP.out _ HX4.out) (fun hHeld=> ?_);clear hK K;try simp only[sA,sB,sC,Act.put,sD,sE,sF]
 refine wpAnyH_ready (rs:=[6]) (by kernel_rfl) (by simp) ?_;refine AllReadyH.cons (o:=_) rfl (fun K hK=> ?_) AllReadyH.nil;go_simp;have HXB:=zH (HX4.out.alloc HX4.out.size (.cells #[.int .i64 t.1,.int .i64 t.2] 39));have hsz:=HX4.out.size;refine hK.out _ _ (HKP.out _ HXB.out) (fun hHeld=> ?_);clear hK K;try simp only[sA,sB,sC,Act.put,sD,sE,sF]
 refine wpAnyH_ready (rs:=[7]) (by kernel_rfl) (by simp) ?_;refine AllReadyH.cons (o:=_) rfl (fun K hK=> ?_) AllReadyH.nil
 (refine Qy rfl _ _ 23 rfl w2.heap.size 39 i0 (.agg #[.int .i64 0,.int .i64 0]) 2 16 Tryz.underlying23 hi hz0 hz1 hz2 rfl (by decide) _ 1 (zD [(3,a)]) rfl (HO4.out.alloc _) (some ⟨w4.heap.size,0,none⟩) 1 1 _ (zD [t]) rfl rfl (q65 (by simp) (by go_simp) (by go_simp)) (jt _) (by unfold maxLen;omega) (by omega) (by simp;omega) ?_;intro v6 w6 hown hgrow;have HX6:=zH (qA HXB.out (HO4.out.alloc _) (by simp;omega) hgrow);have HO6:=zH hown;clear hown hgrow)
 refine hK.out _ _ (HKP.out _ HX6.out) (fun hHeld=> ?_);clear hK K;try simp only[sA,sB,sC,Act.put,sD,sE,sF]
 refine mT 8 (h:= ?_);refine wpAnyH_done (by kernel_rfl) ?_ _;refine NoPanic.normal ?_;go_wp2_with fail
 go_ret;exact kN.some_ (w0:=w2) ⟨_,rfl,HO6.out,HX6.out⟩ HW.out
set_option maxHeartbeats 1600000 in
theorem ftk_32(m:za)(x:ze)(f:Nat)(a b:Int)(k:Nat)(hs:vb m.classes a b=some (k:Int))(y:ze)(hy:m.methods[k]? =some y)(hal:0<y.args.length)(hal2:y.args.length≤1000)(h:zl)(w:World)(H:zp w w.heap.size h m):
  Calls Tryz.prog 93 #[zr h m,zF 32 a b,.int .i64 f] w (qn (zN m x 32 a b) w):=by
 have e00:kt m a b=(k:Int):=by unfold kt;rw[hs];rfl
 have e0:zm m (k:Int)=y:=by unfold zm;rw[Int.toNat_natCast,hy];rfl
 obtain⟨D,hD⟩:∃D,y.args.drop 1=D:=⟨_,rfl⟩
 have hDl:D.length≤1000:=by rw[←hD,List.length_drop];omega
 have HSL:=zH hs;have HY:=zH hy;have e1:zN m x 32 a b=(3,a)::D:=by rw[←hD];simp[zN,e0,e00]
 rw[e1];clear e1;have HL:Hid (zX a [3]=[(3,a)]):=zH (by simp[zX,jG]);have HD:=zH hD;have HCO:Hid (((3,a)::D).length=1+D.length):=zH (by rw[List.length_cons,Nat.add_comm]);clear e00 e0 hs hy hD;obtain⟨i0,hi,hz0,hz1,hz2⟩:=jg kK;obtain⟨hw,hp⟩:=qV h m 32 a b w;have HW:=zH hw;have HP:=zH hp;have HI:=zH (H.now hw);clear hw hp H;go_enter Tryz.func93,Tryz.ntmps93;go_upto_region 1 with fail
 change Code.wp _ _ _ _ (qD h m 32 a b w);go_upto_region 2 with(go_at_call 109;(refine(qW (h:=h) (m:=m) (w:=w)).mono ?_);rintro e w2 ⟨rfl,rfl⟩)
 generalize qP h m 32 a b w=w2 at*
 have HX:Hid (Below w2.heap.size w2 w2):=zH (zb _ _);have HN:=zH HP.out.fnlt;have HC:=zH HP.out.fn;obtain⟨q0,q1,q2,q3,q4,q5,q6⟩:=HP.out.img;obtain⟨o0,o1,o2⟩:=zJ HP.out.ins;go_wp2_with fail
 have HXD:Hid (Below w2.heap.size w2 w2.drew):=zH (zb _ _).drew;have HKP:Hid (∀W,Below w2.heap.size w2 W→(fun w'=>w'.cell? ⟨w.heap.size,0,none⟩=some (.slice h.A0 m.classes.length h.c0)∧w'.cell? ⟨w.heap.size,1,none⟩=some (.slice h.A1 m.statics.length h.c1)∧w'.cell? ⟨w.heap.size,2,none⟩=some (.slice h.A2 m.ints.length h.c2)∧w'.cell? ⟨w.heap.size,3,none⟩=some (.slice h.A3 m.methods.length h.c3)∧w'.cell? ⟨w.heap.size,4,none⟩=some (.slice h.A4 m.entries.length h.c4)∧w'.cell? ⟨w.heap.size,5,none⟩=some (.int .i64 m.stack)∧w'.cell? ⟨w.heap.size,6,none⟩=some (.int .i64 m.heap)∧w'.cell? ⟨w.heap.size+1,0,none⟩=some (.int .i64 32)∧w'.cell? ⟨w.heap.size+1,1,none⟩=some (.int .i64 a)∧w'.cell? ⟨w.heap.size+1,2,none⟩=some (.int .i64 b)) W):=zH (fun W hW=>by
  have hz:=HP.out.size;obtain⟨d0,d1,d2,d3,d4,d5,d6⟩:=HP.out.img.keep hW (by omega);have di:=HP.out.ins.keep hW (by omega);exact⟨d0,d1,d2,d3,d4,d5,d6,di 0 _ rfl,di 1 _ rfl,di 2 _ rfl⟩)
 clear q0 q1 q2 q3 q4 q5 q6 o0 o1 o2;refine wp_region_noPanic ?_;refine wp_region_held_drew (S:=(fun w'=>w'.cell? ⟨w.heap.size,0,none⟩=some (.slice h.A0 m.classes.length h.c0)∧w'.cell? ⟨w.heap.size,1,none⟩=some (.slice h.A1 m.statics.length h.c1)∧w'.cell? ⟨w.heap.size,2,none⟩=some (.slice h.A2 m.ints.length h.c2)∧w'.cell? ⟨w.heap.size,3,none⟩=some (.slice h.A3 m.methods.length h.c3)∧w'.cell? ⟨w.heap.size,4,none⟩=some (.slice h.A4 m.entries.length h.c4)∧w'.cell? ⟨w.heap.size,5,none⟩=some (.int .i64 m.stack)∧w'.cell? ⟨w.heap.size,6,none⟩=some (.int .i64 m.heap)∧w'.cell? ⟨w.heap.size+1,0,none⟩=some (.int .i64 32)∧w'.cell? ⟨w.heap.size+1,1,none⟩=some (.int .i64 a)∧w'.cell? ⟨w.heap.size+1,2,none⟩=some (.int .i64 b))) (by kernel_rfl) (HKP.out _ HXD.out) (fun hHeld=> ?_);refine mT 0 (h:=mT 3 (h:=mT 4 (h:=mT 5 (h:= ?_))));refine wpAnyH_ready (rs:=[1]) (by kernel_rfl) (by simp) ?_;refine AllReadyH.cons (o:=_) rfl (fun K hK=> ?_) AllReadyH.nil;go_simp;refine hK.out _ _ (HKP.out _ (HXD.out.alloc HXD.out.size _)) (fun hHeld=> ?_);clear hK K;try simp only[sA,sB,sC,Act.put,sD,sE,sF]
 refine wpAnyH_ready (rs:=[2]) (by kernel_rfl) (by simp) ?_;refine AllReadyH.cons (o:=_) rfl (fun K hK=> ?_) AllReadyH.nil;go_simp;go_wp2_with(go_at_call 130;(with_reducible refine(qc5 HL HN HC).mono ?_);rintro e w3 ⟨v3,rfl,ho3,hb3⟩;have HO3:=zH ho3;have HX3:=zH hb3;clear ho3 hb3)
 refine hK.out _ _ (HKP.out _ HX3.out) (fun hHeld=> ?_);clear hK K;try simp only[sA,sB,sC,Act.put,sD,sE,sF]
 refine wpAnyH_ready (rs:=[6]) (by kernel_rfl) (by simp) ?_;refine AllReadyH.cons (o:=_) rfl (fun K hK=> ?_) AllReadyH.nil;go_simp;go_wp2_with(go_at_call 115;(with_reducible refine(qc4 HI HX3 HSL).mono ?_);rintro e w4 ⟨rfl,hb⟩;have HX4:=zj HX3 hb;have HO4:=zH (qG HO3.out hb (qi HO3.out));clear hb)
 refine hK.out _ _ (HKP.out _ HX4.out) (fun hHeld=> ?_);clear hK K;try simp only[sA,sB,sC,Act.put,sD,sE,sF]
 refine wpAnyH_ready (rs:=[7]) (by kernel_rfl) (by simp) ?_;refine AllReadyH.cons (o:=_) rfl (fun K hK=> ?_) AllReadyH.nil;go_simp;go_wp2_with(go_at_call 114;(with_reducible refine(qie HI HX4 HY.out hal).mono ?_);rintro e w5 ⟨A5,c5,rfl,hs5,hb⟩;(try rw[HD.out]at hs5);have HT5:=zH (vl hs5.row);have HX5:=zj HX4 hb;have HO5:=zH (qG HO4.out hb (qi HO4.out));clear hb hs5;have HXB:=HX5;have hsz:=HX5.out.size;rw[HD.out])
 refine hK.out _ _ (HKP.out _ HX5.out) (fun hHeld=> ?_);clear hK K;try simp only[sA,sB,sC,Act.put,sD,sE,sF]
 refine wpAnyH_ready (rs:=[8]) (by kernel_rfl) (by simp) ?_;refine AllReadyH.cons (o:=_) rfl (fun K hK=> ?_) AllReadyH.nil
 (refine Qy rfl _ _ 23 rfl w2.heap.size 39 i0 (.agg #[.int .i64 0,.int .i64 0]) 2 16 Tryz.underlying23 hi hz0 hz1 hz2 rfl (by decide) _ 1 (zD [(3,a)]) rfl HO5.out A5 D.length c5 _ (zD D) (vz _) rfl HT5.out (jt _) (by unfold maxLen;omega) (by omega) hsz ?_;intro v6 w6 hown hgrow;have HX6:=zH (qA HXB.out HO5.out hsz hgrow);have HO6:=zH hown;clear hown hgrow)
 refine hK.out _ _ (HKP.out _ HX6.out) (fun hHeld=> ?_);clear hK K;try simp only[sA,sB,sC,Act.put,sD,sE,sF]
 refine mT 9 (h:= ?_);refine wpAnyH_done (by kernel_rfl) ?_ _;refine NoPanic.normal ?_;go_wp2_with fail
 go_ret;exact kN.some_ (w0:=w2) ⟨_,rfl,by rw[HCO.out];exact HO6.out,HX6.out⟩ HW.out
theorem fgv_3(m:za)(x:ze)(f:Nat)(a b:Int)(hx:m.methods[f]? =some x)(ha:a≤9223372036854775807)(tk:List (Int×Int))(A:Option Addr)(c:Nat)(h:zl)(w:World)(H:zp w w.heap.size h m):
  Calls Tryz.prog 97 #[zr h m,zF 3 a b,.int .i64 f,.slice A tk.length c] w (qn (zY m x 3 a b tk) w):=by
 have e1:zY m x 3 a b tk=[qB x a]:=by simp[zY,zB]
 rw[e1];clear e1;obtain⟨t,ht⟩:∃t,qB x a=t:=⟨_,rfl⟩
 have HT:=zH ht;rw[ht];clear ht;obtain⟨hw,hp⟩:=qV h m 3 a b w;have HW:=zH hw;have HP:=zH hp;have HI:=zH (H.now hw);clear hw hp H;go_enter Tryz.func97,Tryz.ntmps97;go_upto_region 1 with fail
 change Code.wp _ _ _ _ (qD h m 3 a b w);go_upto_region 2 with(go_at_call 109;(refine(qW (h:=h) (m:=m) (w:=w)).mono ?_);rintro e w2 ⟨rfl,rfl⟩)
 generalize qP h m 3 a b w=w2 at*
 have HX:Hid (Below w2.heap.size w2 w2):=zH (zb _ _);have HN:=zH HP.out.fnlt;have HC:=zH HP.out.fn;obtain⟨q0,q1,q2,q3,q4,q5,q6⟩:=HP.out.img;obtain⟨o0,o1,o2⟩:=zJ HP.out.ins;go_wp2_with(go_at_call 110;(with_reducible refine(qaw HI HX hx ha HT).mono ?_);rintro e w3 ⟨rfl,hb⟩;have HX3:=zH hb;clear hb)
 go_ret;exact⟨_,_,rfl,vi (by simp) (by go_simp) (by go_simp),HW.out.trans ((HX3.out.alloc HX3.out.size _).mono HW.out.size)⟩
theorem fgv_29(m:za)(x:ze)(f:Nat)(j:Nat)(b:Int)(t:Int×Int)(hs:m.statics[j]? =some t)(tk:List (Int×Int))(A:Option Addr)(c:Nat)(h:zl)(w:World)(H:zp w w.heap.size h m):
  Calls Tryz.prog 97 #[zr h m,zF 29 (j:Int) b,.int .i64 f,.slice A tk.length c] w (qn (zY m x 29 (j:Int) b tk) w):=by
 have e0:Zt m (j:Int)=t:=by unfold Zt;rw[Int.toNat_natCast,hs];rfl
 have e1:zY m x 29 (j:Int) b tk=[t]:=by simp[zY,zB,e0]
 rw[e1];clear e1;have HS:=zH hs;clear hs e0;obtain⟨hw,hp⟩:=qV h m 29 (j:Int) b w;have HW:=zH hw;have HP:=zH hp;have HI:=zH (H.now hw);clear hw hp H;go_enter Tryz.func97,Tryz.ntmps97;go_upto_region 1 with fail
 change Code.wp _ _ _ _ (qD h m 29 (j:Int) b w);go_upto_region 2 with(go_at_call 109;(refine(qW (h:=h) (m:=m) (w:=w)).mono ?_);rintro e w2 ⟨rfl,rfl⟩)
 generalize qP h m 29 (j:Int) b w=w2 at*
 have HX:Hid (Below w2.heap.size w2 w2):=zH (zb _ _);have HN:=zH HP.out.fnlt;have HC:=zH HP.out.fn;obtain⟨q0,q1,q2,q3,q4,q5,q6⟩:=HP.out.img;obtain⟨o0,o1,o2⟩:=zJ HP.out.ins;go_wp2_with(go_at_call 112;(with_reducible refine(q9h HI HX HS).mono ?_);rintro e w3 ⟨rfl,hb⟩;have HX3:=zH hb;clear hb)
 go_ret;exact⟨_,_,rfl,vi (by simp) (by go_simp) (by go_simp),HW.out.trans ((HX3.out.alloc HX3.out.size _).mono HW.out.size)⟩
theorem fgv_31(m:za)(x:ze)(f:Nat)(j:Nat)(b:Int)(y:ze)(hy:m.methods[j]? =some y)(tk:List (Int×Int))(A:Option Addr)(c:Nat)(h:zl)(w:World)(H:zp w w.heap.size h m):
  Calls Tryz.prog 97 #[zr h m,zF 31 (j:Int) b,.int .i64 f,.slice A tk.length c] w (qn (zY m x 31 (j:Int) b tk) w):=by
 have e0:zm m (j:Int)=y:=by unfold zm;rw[Int.toNat_natCast,hy];rfl
 have e1:zY m x 31 (j:Int) b tk=jd y:=by simp[zY,zB,e0]
 rw[e1];clear e1;clear e0;obtain⟨hw,hp⟩:=qV h m 31 (j:Int) b w;have HW:=zH hw;have HP:=zH hp;have HI:=zH (H.now hw);clear hw hp H;go_enter Tryz.func97,Tryz.ntmps97;go_upto_region 1 with fail
 change Code.wp _ _ _ _ (qD h m 31 (j:Int) b w);go_upto_region 2 with(go_at_call 109;(refine(qW (h:=h) (m:=m) (w:=w)).mono ?_);rintro e w2 ⟨rfl,rfl⟩)
 generalize qP h m 31 (j:Int) b w=w2 at*
 have HX:Hid (Below w2.heap.size w2 w2):=zH (zb _ _);have HN:=zH HP.out.fnlt;have HC:=zH HP.out.fn;obtain⟨q0,q1,q2,q3,q4,q5,q6⟩:=HP.out.img;obtain⟨o0,o1,o2⟩:=zJ HP.out.ins;go_wp2_with(go_at_call 116;(with_reducible refine(q48 HI HX hy).mono ?_);rintro e w3 ⟨A3,c3,rfl,hs3,hb⟩;have HX3:=zj HX hb;have HS3:=zH hs3;clear hb hs3)
 go_ret;exact⟨_,_,rfl,HS3.out,HW.out.trans (HX3.out.mono HW.out.size)⟩
theorem fgv_27(m:za)(x:ze)(f:Nat)(a:Int)(k:Nat)(t:Int×Int)(hk:(qS m.classes a)[k]? =some t)(hn:m.classes.length≤1000)(hf:∀x ∈m.classes,x.fields.length≤1000)(tk:List (Int×Int))(A:Option Addr)(c:Nat)(h:zl)(w:World)(H:zp w w.heap.size h m):
  Calls Tryz.prog 97 #[zr h m,zF 27 a (k:Int),.int .i64 f,.slice A tk.length c] w (qn (zY m x 27 a (k:Int) tk) w):=by
 have e0:ZB m a (k:Int)=t:=by unfold ZB;rw[Int.toNat_natCast,hk];rfl
 have e1:zY m x 27 a (k:Int) tk=[t]:=by simp[zY,zB,e0]
 rw[e1];clear e1;have HK:=zH hk;have HF:=zH hf;clear hk hf e0;obtain⟨hw,hp⟩:=qV h m 27 a (k:Int) w;have HW:=zH hw;have HP:=zH hp;have HI:=zH (H.now hw);clear hw hp H;go_enter Tryz.func97,Tryz.ntmps97;go_upto_region 1 with fail
 change Code.wp _ _ _ _ (qD h m 27 a (k:Int) w);go_upto_region 2 with(go_at_call 109;(refine(qW (h:=h) (m:=m) (w:=w)).mono ?_);rintro e w2 ⟨rfl,rfl⟩)
 generalize qP h m 27 a (k:Int) w=w2 at*
 have HX:Hid (Below w2.heap.size w2 w2):=zH (zb _ _);have HN:=zH HP.out.fnlt;have HC:=zH HP.out.fn;obtain⟨q0,q1,q2,q3,q4,q5,q6⟩:=HP.out.img;obtain⟨o0,o1,o2⟩:=zJ HP.out.ins;go_wp2_with(go_at_call 111;(with_reducible refine(qax HI HX HK hn HF).mono ?_);rintro e w3 ⟨rfl,hb⟩;have HX3:=zj HX hb;clear hb)
 go_ret;exact⟨_,_,rfl,vi (by simp) (by go_simp) (by go_simp),HW.out.trans ((HX3.out.alloc HX3.out.size _).mono HW.out.size)⟩
theorem fgv_32(m:za)(x:ze)(f:Nat)(a b:Int)(k:Nat)(hs:vb m.classes a b=some (k:Int))(y:ze)(hy:m.methods[k]? =some y)(tk:List (Int×Int))(A:Option Addr)(c:Nat)(h:zl)(w:World)(H:zp w w.heap.size h m):
  Calls Tryz.prog 97 #[zr h m,zF 32 a b,.int .i64 f,.slice A tk.length c] w (qn (zY m x 32 a b tk) w):=by
 have e00:kt m a b=(k:Int):=by unfold kt;rw[hs];rfl
 have e0:zm m (k:Int)=y:=by unfold zm;rw[Int.toNat_natCast,hy];rfl
 have HSL:=zH hs;have HY:=zH hy;have e1:zY m x 32 a b tk=jd y:=by simp[zY,zB,e0,e00]
 rw[e1];clear e1;clear e00 e0 hs hy;obtain⟨hw,hp⟩:=qV h m 32 a b w;have HW:=zH hw;have HP:=zH hp;have HI:=zH (H.now hw);clear hw hp H;go_enter Tryz.func97,Tryz.ntmps97;go_upto_region 1 with fail
 change Code.wp _ _ _ _ (qD h m 32 a b w);go_upto_region 2 with(go_at_call 109;(refine(qW (h:=h) (m:=m) (w:=w)).mono ?_);rintro e w2 ⟨rfl,rfl⟩)
 generalize qP h m 32 a b w=w2 at*
 have HX:Hid (Below w2.heap.size w2 w2):=zH (zb _ _);have HN:=zH HP.out.fnlt;have HC:=zH HP.out.fn;obtain⟨q0,q1,q2,q3,q4,q5,q6⟩:=HP.out.img;obtain⟨o0,o1,o2⟩:=zJ HP.out.ins;go_wp2_with fail
 have HXD:Hid (Below w2.heap.size w2 w2.drew):=zH (zb _ _).drew;have HKP:Hid (∀W,Below w2.heap.size w2 W→(fun w'=>w'.cell? ⟨w.heap.size,0,none⟩=some (.slice h.A0 m.classes.length h.c0)∧w'.cell? ⟨w.heap.size,1,none⟩=some (.slice h.A1 m.statics.length h.c1)∧w'.cell? ⟨w.heap.size,2,none⟩=some (.slice h.A2 m.ints.length h.c2)∧w'.cell? ⟨w.heap.size,3,none⟩=some (.slice h.A3 m.methods.length h.c3)∧w'.cell? ⟨w.heap.size,4,none⟩=some (.slice h.A4 m.entries.length h.c4)∧w'.cell? ⟨w.heap.size,5,none⟩=some (.int .i64 m.stack)∧w'.cell? ⟨w.heap.size,6,none⟩=some (.int .i64 m.heap)∧w'.cell? ⟨w.heap.size+1,0,none⟩=some (.int .i64 32)∧w'.cell? ⟨w.heap.size+1,1,none⟩=some (.int .i64 a)∧w'.cell? ⟨w.heap.size+1,2,none⟩=some (.int .i64 b)) W):=zH (fun W hW=>by
  have hz:=HP.out.size;obtain⟨d0,d1,d2,d3,d4,d5,d6⟩:=HP.out.img.keep hW (by omega);have di:=HP.out.ins.keep hW (by omega);exact⟨d0,d1,d2,d3,d4,d5,d6,di 0 _ rfl,di 1 _ rfl,di 2 _ rfl⟩)
 clear q0 q1 q2 q3 q4 q5 q6 o0 o1 o2;refine wp_region_noPanic ?_;refine wp_region_held_drew (S:=(fun w'=>w'.cell? ⟨w.heap.size,0,none⟩=some (.slice h.A0 m.classes.length h.c0)∧w'.cell? ⟨w.heap.size,1,none⟩=some (.slice h.A1 m.statics.length h.c1)∧w'.cell? ⟨w.heap.size,2,none⟩=some (.slice h.A2 m.ints.length h.c2)∧w'.cell? ⟨w.heap.size,3,none⟩=some (.slice h.A3 m.methods.length h.c3)∧w'.cell? ⟨w.heap.size,4,none⟩=some (.slice h.A4 m.entries.length h.c4)∧w'.cell? ⟨w.heap.size,5,none⟩=some (.int .i64 m.stack)∧w'.cell? ⟨w.heap.size,6,none⟩=some (.int .i64 m.heap)∧w'.cell? ⟨w.heap.size+1,0,none⟩=some (.int .i64 32)∧w'.cell? ⟨w.heap.size+1,1,none⟩=some (.int .i64 a)∧w'.cell? ⟨w.heap.size+1,2,none⟩=some (.int .i64 b))) (by kernel_rfl) (HKP.out _ HXD.out) (fun hHeld=> ?_);refine mT 0 (h:=mT 1 (h:=mT 2 (h:= ?_)));refine wpAnyH_ready (rs:=[3]) (by kernel_rfl) (by simp) ?_;refine AllReadyH.cons (o:=_) rfl (fun K hK=> ?_) AllReadyH.nil;go_simp;go_wp2_with(go_at_call 115;(with_reducible refine(qc4 HI HXD HSL).mono ?_);rintro e w4 ⟨rfl,hb⟩;have HX4:=zj HXD hb;clear hb)
 refine hK.out _ _ (HKP.out _ HX4.out) (fun hHeld=> ?_);clear hK K;try simp only[sA,sB,sC,Act.put,sD,sE,sF]
 refine wpAnyH_ready (rs:=[4]) (by kernel_rfl) (by simp) ?_;refine AllReadyH.cons (o:=_) rfl (fun K hK=> ?_) AllReadyH.nil;go_simp;go_wp2_with(go_at_call 116;(with_reducible refine(q48 HI HX4 HY.out).mono ?_);rintro e w5 ⟨A3,c3,rfl,hs3,hb⟩;have HX3:=zj HX4 hb;have HS3:=zH hs3;clear hb hs3)
 refine hK.out _ _ (HKP.out _ HX3.out) (fun hHeld=> ?_);clear hK K;try simp only[sA,sB,sC,Act.put,sD,sE,sF]
 refine mT 5 (h:= ?_);refine wpAnyH_done (by kernel_rfl) ?_ _;refine NoPanic.normal ?_;go_wp2_with fail
 go_ret;exact⟨_,_,rfl,HS3.out,HW.out.trans (HX3.out.mono HW.out.size)⟩
theorem fgv_6(m:za)(x:ze)(f:Nat)(a b:Int)(tk:List (Int×Int))(A:Option Addr)(c:Nat)(htl:tk.length≤1000)(h:zl)(w:World)(H:zp w w.heap.size h m)(HT:zd zi 2 w w.heap.size A c tk):
  Calls Tryz.prog 97 #[zr h m,zF 6 a b,.int .i64 f,.slice A tk.length c] w (qn (zY m x 6 a b tk) w):=by
 have e1:zY m x 6 a b tk=tk++tk:=by simp[zY,zB]
 rw[e1];clear e1;obtain⟨N,hN⟩:∃N,tk++tk=N:=⟨_,rfl⟩
 have HNN:=zH hN;rw[hN];clear hN;obtain⟨hw,hp⟩:=qV h m 6 a b w;have HW:=zH hw;have HP:=zH hp;have HI:=zH (H.now hw);have HTK:=zH ((HT.below_to zi.keeps hw (zn _)).keep' zi.keeps hw.size (fun _ _=>rfl));clear hw hp H HT;go_enter Tryz.func97,Tryz.ntmps97;go_upto_region 1 with fail
 change Code.wp _ _ _ _ (qD h m 6 a b w);go_upto_region 2 with(go_at_call 109;(refine(qW (h:=h) (m:=m) (w:=w)).mono ?_);rintro e w2 ⟨rfl,rfl⟩)
 generalize qP h m 6 a b w=w2 at*
 have HX:Hid (Below w2.heap.size w2 w2):=zH (zb _ _);have HN:=zH HP.out.fnlt;have HC:=zH HP.out.fn;obtain⟨q0,q1,q2,q3,q4,q5,q6⟩:=HP.out.img;obtain⟨o0,o1,o2⟩:=zJ HP.out.ins;have HA:Hid (Below w2.heap.size w2 (w2.alloc (.cells #[.slice A tk.length c,.slice A tk.length c] 23))):=zH ((zb _ _).alloc (zn _) _);go_wp2_with(go_at_call 96;(with_reducible refine(qin (g:=w2.heap.size) HNN (VP HTK.out _) (VP HTK.out _) (by simp) (qd w2 [.slice A tk.length c,.slice A tk.length c] 23) htl htl).mono ?_);rintro e w3 ⟨v3,rfl,ho3,hb3⟩;have HO3:=zH (jI ho3 HA.out.size);have HX3:=zj HA hb3;clear ho3 hb3)
 go_ret;exact kN.some_ (w0:=w2) ⟨_,rfl,HO3.out,HX3.out⟩ HW.out
def q5y(op:Int)(u v:Int×Int):Prop:=(u.1=6∧v.1=0)∨(u.1=7∧v.1=4∧¬op=34)∨(u.1=8∧v.1=4∧op=34)∨(u=v∧(u.1=1∨u.1=2∨u.1=3))
def WR(op:Int):List (Int×Int)→List (Int×Int)→Prop
 | [],[]=>True
 |u::W,v::T=>q5y op u v∧WR op W T
 |_,_=>False
theorem qp0{sup:List Int}{op:Int}{t u v:Int×Int}(h:q5y op u v):vw sup t u=qk sup op t v:=by
 unfold vw qk;rcases h with⟨h1,h2⟩|⟨h1,h2,h3⟩|⟨h1,h2,h3⟩|⟨rfl,h2⟩
 ·rw[if_pos h1,if_pos h2]
 ·rw[if_neg (by omega),if_pos h1,if_neg (by omega),if_pos h2,decide_eq_false h3];simp
 ·rw[if_neg (by omega),if_neg (by omega),if_pos h1,if_neg (by omega),if_pos h2,decide_eq_true h3];simp
 ·rw[if_neg (by omega),if_neg (by omega),if_neg (by omega),if_neg (by omega),if_neg (by omega)]
theorem q6i{op:Int}:∀{W T:List (Int×Int)},WR op W T→W.length=T.length
 | [],[],_=>rfl
 |_::W,_::T,h=>by rw[List.length_cons,List.length_cons,q6i h.2]
 | [],_::_,h=>h.elim
 |_::_,[],h=>h.elim
theorem qdc{sup:List Int}{op:Int}:∀{W T:List (Int×Int)} (L:List (Int×Int)),WR op W T→(L.zip W).all (fun p=>vw sup p.1 p.2)=(L.zip T).all (fun p=>qk sup op p.1 p.2)
 | [],[],L,_=>by simp
 |u::W,v::T,[],h=>by simp
 |u::W,v::T,t::L,h=>by
  rw[List.zip_cons_cons,List.zip_cons_cons,List.all_cons,List.all_cons,qdc L h.2];show(vw sup t u&& _)=(qk sup op t v&& _)
  rw[qp0 h.1]
 | [],_::_,_,h=>h.elim
 |_::_,[],_,h=>h.elim
theorem qau{k n c:Int}(h:jL k n c=true):k=1∨k=2∨k=3:=by
 unfold jL at h;rw[decide_eq_true_eq]at h;omega
theorem q5w{op:Int}{c:Int}:∀{L:List (Int×Int)},(∀t ∈L,jL t.1 t.2 c=true)→WR op L L
 | [],_=>trivial
 |t::L,h=>⟨.inr (.inr (.inr ⟨rfl,qau (h t (List.mem_cons_self ..))⟩)),q5w fun u hu=>h u (List.mem_cons_of_mem _ hu)⟩
theorem q0h{op:Int}{c:Int}{t:Int×Int}(h:jL t.1 t.2 c=true):WR op [t] [t]:=⟨.inr (.inr (.inr ⟨rfl,qau h⟩)),trivial⟩
theorem q9t{m:za}{x:ze}{f:Nat}{op a b:Int}(hm:zP m)(hg:m.methods[f]? =some x)(hi:jb op a b=true)(hn:zQ m x op a b=true)(h6:¬op=6):WR op (zN m x op a b) (zE m x op a b):=by
 obtain⟨o0,o1,a0,a1,b0,b1⟩:=Za hi;have hx:=hm.method (List.mem_of_getElem? hg);have hc:op=1∨op=2∨op=3∨op=4∨op=5∨op=7∨op=8∨op=9∨op=10∨op=11∨op=12∨op=13∨op=14∨op=15∨op=16∨op=17∨op=18∨op=19∨op=20∨op=21∨op=22∨op=23∨op=24∨op=25∨op=26∨op=27∨op=28∨op=29∨op=30∨op=31∨op=32∨op=33∨op=34:=by omega
 rcases hc with rfl|rfl|rfl|rfl|rfl|rfl|rfl|rfl|rfl|rfl|rfl|rfl|rfl|rfl|rfl|rfl|rfl|rfl|rfl|rfl|rfl|rfl|rfl|rfl|rfl|rfl|rfl|rfl|rfl|rfl|rfl|rfl|rfl;all_goals first|(simp[zN,zE,WR,q5y];done)|skip
 ·have e1:zN m x 4 a b=[qB x a]:=by simp[zN]
  have e2:zE m x 4 a b=[qB x a]:=by simp[zE]
  rw[e1,e2];have hl:=q4z (op:=4) (.inr rfl) hn;have hmem:=QX (l:=x.args++x.locals) a0 (by rw[List.length_append];omega);have hlo:qB x a=(x.args++x.locals)[a.toNat]?.getD (0,0):=by unfold qB;rw[if_pos a0]
  rw[hlo];rcases List.mem_append.mp hmem with q|q
  ·exact q0h (hx.at_ _ q)
  ·exact q0h (hx.lt _ q)
 ·have e1:zN m x 28 a b=[(3,a),ZB m a b]:=by simp[zN]
  have e2:zE m x 28 a b=[(3,a),ZB m a b]:=by simp[zE]
  rw[e1,e2];exact⟨.inr (.inr (.inr ⟨rfl,.inr (.inr rfl)⟩)),q0h (q3p hm (QX b0 (Yd (op:=28) (.inr rfl) hn).2))⟩
 ·have e1:zN m x 30 a b=[Zt m a]:=by simp[zN]
  have e2:zE m x 30 a b=[Zt m a]:=by simp[zE]
  rw[e1,e2];exact q0h (hm.st _ (QX a0 (JZ (op:=30) (.inr rfl) hn)))
 ·have e1:zN m x 31 a b=(zm m a).args:=by simp[zN]
  have e2:zE m x 31 a b=(zm m a).args:=by simp[zE]
  rw[e1,e2];have h1:=Yg hn;have h2:a.toNat<m.methods.length:=by omega
  have h3:zm m a ∈m.methods:=by unfold zm;rw[List.getElem?_eq_getElem h2];exact List.getElem_mem h2
  exact q5w (hm.method h3).at_
 ·have e1:zN m x 32 a b=(3,a)::(zm m (kt m a b)).args.drop 1:=by simp[zN]
  have e2:zE m x 32 a b=(3,a)::(zm m (kt m a b)).args.drop 1:=by simp[zE]
  rw[e1,e2];obtain⟨_,k,y,hk,hy,_⟩:=Yf hm a0 b0 hn;have h3:zm m (kt m a b)=y:=by unfold zm kt;rw[hk,Option.getD_some,Int.toNat_natCast,hy];rfl
  rw[h3];exact⟨.inr (.inr (.inr ⟨rfl,.inr (.inr rfl)⟩)),q5w fun t ht=>(hm.method (List.mem_of_getElem? hy)).at_ t (List.mem_of_mem_drop ht)⟩
 ·have e1:zN m x 33 a b=jd x:=by simp[zN]
  have e2:zE m x 33 a b=jd x:=by simp[zE]
  rw[e1,e2];unfold jd;by_cases h5:x.ret.1=5
  ·rw[if_pos h5];trivial
  ·rw[if_neg h5];rcases hx.rt with h|h
   ·rw[h]at h5;exact absurd rfl h5
   ·exact q0h h
def q1q(sup:List Int)(W gv:List (Int×Int))(nl:List Int)(st:List (Int×Int)):ZZ:=
 if QG sup (st.drop (st.length - W.length)) W=true then(if 8<(st.take (st.length - W.length)++gv).length then qL 4 else⟨st.take (st.length - W.length)++gv,nl,0⟩)else qL 4
theorem q8o{sup:List Int}{op:Int}{W TK GV:List (Int×Int)}{nl:List Int}{st:List (Int×Int)}(h:WR op W TK):q1q sup W GV nl st=vk sup op TK GV nl st:=by
 have hl:=q6i h;unfold q1q vk QG;rw[hl,qdc _ h];have hd:(st.drop (st.length - TK.length)).length=st.length - (st.length - TK.length):=List.length_drop;by_cases g:st.length<TK.length
 ·rw[decide_eq_false (by omega),Bool.false_and,if_neg (by simp),if_pos (.inl g)]
 ·rw[decide_eq_true (by omega),Bool.true_and];have ht:(st.take (st.length - TK.length)++GV).length=st.length - TK.length+GV.length:=by rw[List.length_append,List.length_take];omega
  rw[ht];by_cases g8:8<st.length - TK.length+GV.length
  ·rw[if_pos g8,if_pos (Or.inr g8)];split<;>rfl
  ·rw[if_neg g8,if_neg (show ¬(st.length<TK.length∨8<st.length - TK.length+GV.length)from fun q=>q.elim g g8)]
theorem qc9{m:za}{x:ze}{pc op a b:Int}(hn:zQ m x op a b=true):ZH x.code.length (qE pc op a)=(qE pc op a).head?.any (fun n=>decide ((x.code.length:Int)≤n)):=by
 unfold qE ZH;by_cases h18:op=18
 ·rw[if_pos h18];simp
 ·rw[if_neg h18];by_cases h19:op=19
  ·rw[if_pos h19];have:=q96 (.inr h19) hn;simp;omega
  ·rw[if_neg h19];by_cases h33:op=33
   ·rw[if_pos h33];rfl
   ·rw[if_neg h33];simp
theorem qnn{m:za}{x:ze}{pc op a b:Int}{st:List (Int×Int)}(hn:zQ m x op a b=true)(h:ZH x.code.length (qE pc op a)=true):qr m x pc op a b st=qL 4:=by
 unfold qr;rw[if_pos (by rw[←qc9 hn];exact h)]
theorem qmx{st:List (Int×Int)}(h:st≠ []):st.drop (st.length - 1)=[st.getLast?.getD (0,0)]:=by
 have h0:0<st.length:=List.length_pos_iff.mpr h;rw[List.drop_eq_getElem_cons (by omega),List.drop_of_length_le (by omega),List.getLast?_eq_getElem?,List.getElem?_eq_getElem (by omega)];rfl
theorem qk1{m:za}{x:ze}{f:Nat}{pc op a b:Int}{st:List (Int×Int)}(hm:zP m)(hg:m.methods[f]? =some x)(hi:jb op a b=true)(hn:zQ m x op a b=true)(h:ZH x.code.length (qE pc op a)=false):
  qr m x pc op a b st=q1q (zw m.classes) (zN m x op a b) (zY m x op a b (st.drop (st.length - (zN m x op a b).length))) (qE pc op a) st:=by
 have hf:¬(qE pc op a).head?.any (fun n=>decide ((x.code.length:Int)≤n))=true:=by rw[←qc9 hn,h];simp
 by_cases h6:op=6
 ·subst h6;have e1:zN m x 6 a b=[(6,0)]:=by simp[zN]
  rw[e1];by_cases hs:st=[]
  ·subst hs;rw[q4h];rfl
  ·rw[QS hf (fun q=>hs q.2)];have e2:qO m x 6 a b st=[(0,0)]:=by unfold qO;rw[if_pos ⟨rfl,hs⟩]
   have e3:ju m x 6 a b st=[st.getLast?.getD (0,0),st.getLast?.getD (0,0)]:=by unfold ju;rw[if_pos ⟨rfl,hs⟩]
   have e4:zY m x 6 a b (st.drop (st.length - [((6:Int),(0:Int))].length))=[st.getLast?.getD (0,0),st.getLast?.getD (0,0)]:=by
    unfold zY;rw[if_pos rfl];show st.drop (st.length - 1)++st.drop (st.length - 1)=_;rw[qmx hs];rfl
   rw[e2,e3,e4];exact(q8o (show WR 6 [(6,0)] [(0,0)]from⟨.inl ⟨rfl,rfl⟩,trivial⟩)).symm
 ·rw[QS hf (fun q=>h6 q.1)];have e2:qO m x op a b st=zE m x op a b:=by unfold qO;rw[if_neg (fun q=>h6 q.1)]
  have e3:ju m x op a b st=zB m x op a b:=by unfold ju;rw[if_neg (fun q=>h6 q.1)]
  have e4:∀tk,zY m x op a b tk=zB m x op a b:=fun tk=>by unfold zY;rw[if_neg h6]
  rw[e2,e3,e4];exact(q8o (q9t hm hg hi hn h6)).symm
theorem qjv{m:za}{x:ze}{f:Nat}{op a b:Int}(hm:zP m)(hg:m.methods[f]? =some x)(hi:jb op a b=true)(hn:zQ m x op a b=true):(zN m x op a b).length=if op=6 then 1 else(zE m x op a b).length:=by
 by_cases h6:op=6
 ·subst h6;rw[if_pos rfl];simp[zN]
 ·rw[if_neg h6];exact q6i (q9t hm hg hi hn h6)
theorem oN_ext{L M:List Int}(hl:L.length=M.length)(h:∀v,v<L.length→oN L v=oN M v):L=M:=by
 refine List.ext_getElem hl fun v h1 h2=> ?_;have:=h v h1
 rwa [Qs h1,Qs h2]at this
theorem q2a(n:Nat)(a b most:Int):(qN n a b most).1.length=n:=by simp[qN]
theorem qq1{n v:Nat}{a b most:Int}(h:v<n):oN (qN n a b most).1 v=(if(v:Int)=b then 1 else 0) - (if(v:Int)=a then 1 else 0):=by
 rw[Qs (by rw[q2a];exact h)];simp[qN]
theorem qjl(n:Nat)(a b most:Int):vH (vH (List.replicate n 0) b 1) a (-1)=(qN n a b most).1:=by
 have hl:(vH (vH (List.replicate n (0:Int)) b 1) a (-1)).length=n:=by rw[q2l,q2l,List.length_replicate]
 refine oN_ext (by rw[hl,q2a]) fun v hv=> ?_;rw[hl]at hv;rw[qq1 hv,qd4 (by rw[q2l,List.length_replicate];exact hv),qd4 (by rw[List.length_replicate];exact hv)];have:oN (List.replicate n (0:Int)) v=0:=by unfold oN;rw[List.getElem?_replicate,if_pos hv];rfl
 rw[this];split<;>split<;>omega
theorem qkd{L:List Int}{k:Int}(h:∀x ∈L,-k≤x∧x≤k)(hk:0≤k){i b:Int}(hb: -1≤b∧b≤1):∀x ∈vH L i b,-(k+1)≤x∧x≤k+1:=fun x hx=>by
 unfold vH at hx;split at hx
 ·rename_i h0;rcases List.mem_or_eq_of_mem_set hx with q|q
  ·have:=h x q;omega
  ·have h1:=h _ (List.getElem_mem (show i.toNat<L.length by omega));rw[←Qs (show i.toNat<L.length by omega)]at h1;omega
 ·have:=h x hx;omega
set_option maxHeartbeats 3200000 in
theorem qhj(n:Nat)(a b most:Int)(w:World)(hn:n≤1000):
  Calls Tryz.prog 30 #[.int .i64 n,.int .i64 b,.int .i64 a,.int .i64 most] w fun e w'=>∃g,e= .returned (.agg #[.slice (some ⟨g,0,none⟩) n n,.int .i64 most])∧w.heap.size≤g∧zZ w' g (qN n a b most).1∧Below w.heap.size w w':=by
 obtain⟨i1,hi1,hy0,hy1,hy2⟩:=jg kp;have HR:=zH (qjl n a b most);have HNL:=zH hn;go_enter Tryz.func30,Tryz.ntmps30;go_upto_region 1 with fail
 have HW1:=zH ((zb w.heap.size w).alloc (zn _) (.cells #[.slice none 0 0,.int .i64 0] 49));have HQ1:=zH (zf.new w [.slice none 0 0,.int .i64 0] 49);have HZ1:Hid (w.heap.size<(w.alloc (.cells #[.slice none 0 0,.int .i64 0] 49)).heap.size):=zH (by simp);generalize w.alloc (.cells #[.slice none 0 0,.int .i64 0] 49)=w1 at*
 go_upto_region 2 with(at_make;refine wpList_make_full _ rfl _ _ 26 rfl w1.heap.size 3 i1 (.int .i64 0) 1 Tryz.underlying26 hi1 hy0 hy1 .i64 .i64 _ _ n rfl rfl rfl rfl (by rw[hy2];omega) (by unfold maxLen;omega) (zn _) ?_;intro w3 hown hgrow;have HO3:=zH hown;have HB3:=zH ((zb w1.heap.size w1).grown hgrow (zn _) (fun k hk=>by cases hk));clear hown hgrow)
 have hN3:zZ w3 w1.heap.size (List.replicate n 0):=by
  have h1:=YV HO3.out;rw[JF (v:= .int .i64 0) rfl]at h1;unfold zZ;rw[List.map_replicate];exact h1
 obtain⟨g,hg⟩:∃g,w1.heap.size=g:=⟨_,rfl⟩
 rw[hg]at hN3;have hgl:=zf.lt hN3;have hwg:w.heap.size<g:=by have:=HZ1.out;omega
 have hB4:Below g w1 (w3.alloc (.cells #[.slice (some ⟨g,0,none⟩) n n,.int .i64 most] 49)):=by
  have:=HB3.out;rw[hg]at this;exact this.alloc (by omega) _
 have HN4:Hid (zZ (w3.alloc (.cells #[.slice (some ⟨g,0,none⟩) n n,.int .i64 most] 49)) g (List.replicate n 0)):=zH (hN3.keep ((zb _ _).alloc (zn _) _));have HQ4:=zH (zf.new w3 [.slice (some ⟨g,0,none⟩) n n,.int .i64 most] 49);simp only[hg];have HQ4:Hid (zf (w3.alloc (.cells #[.slice (some ⟨g,0,none⟩) n n,.int .i64 most] 49)) w3.heap.size [.slice (some ⟨g,0,none⟩) n n,.int .i64 most] 49):=HQ4;obtain⟨q,hq⟩:∃q,w3.heap.size=q:=⟨_,rfl⟩
 rw[hq]at HQ4 hgl;simp only[hq];generalize w3.alloc (.cells #[.slice (some ⟨g,0,none⟩) n n,.int .i64 most] 49)=w4 at*
 have HB4:=zH hB4;have HL0:Hid ((List.replicate n (0:Int)).length=n):=zH (List.length_replicate ..);have hs0:∀x ∈List.replicate n (0:Int),-0≤x∧x≤0:=fun x hx=>by have:=(List.mem_replicate.mp hx).2;omega
 have hs1:=qkd hs0 (Int.le_refl 0) (i:=b) (b:=1) (by omega);have HS0:Hid (∀x ∈List.replicate n (0:Int),-1000≤x∧x≤1000):=zH (fun x hx=>by have:=hs0 x hx;omega);have HS1:Hid (∀x ∈vH (List.replicate n (0:Int)) b 1,-1000≤x∧x≤1000):=zH (fun x hx=>by have:=hs1 x hx;omega);have HL1:Hid ((vH (List.replicate n (0:Int)) b 1).length=n):=zH (by rw[q2l];exact HL0.out);obtain⟨L1,hL1⟩:∃L,vH (List.replicate n (0:Int)) b 1=L:=⟨_,rfl⟩
 rw[hL1]at HS1 HL1 HR;have HA1:=zH hL1;generalize List.replicate n (0:Int)=L0 at*
 clear hs0 hs1 hN3 hB4 HO3 HB3 hL1;have q0:=HQ4.out.cells 0 _ rfl;go_upto_region 3 with(go_at_call 57;(with_reducible refine(qcv HL0 HN4 HNL HS0 (zH ⟨by omega,by omega⟩) HA1).mono ?_);rintro e w5 ⟨rfl,hn5,hg5⟩;have HN5:=zH hn5;have HQ5:Hid (zf w5 q [.slice (some ⟨g,0,none⟩) n n,.int .i64 most] 49):=zH (q8i HQ4.out hg5 (by omega));have HB5:=zH (HB4.out.grown hg5 (Nat.le_of_lt (zf.lt HN4.out)) (fun k e=>by cases e;exact zn _));clear hn5 hg5)
 clear q0;have q0:=HQ5.out.cells 0 _ rfl;go_upto_region 4 with(go_at_call 57;(with_reducible refine(qcv HL1 HN5 HNL HS1 (zH ⟨by omega,by omega⟩) HR).mono ?_);rintro e w6 ⟨rfl,hn6,hg6⟩;have HN6:=zH hn6;have HQ6:Hid (zf w6 q [.slice (some ⟨g,0,none⟩) n n,.int .i64 most] 49):=zH (q8i HQ5.out hg6 (by omega));have HB6:=zH (HB5.out.grown hg6 (Nat.le_of_lt (zf.lt HN5.out)) (fun k e=>by cases e;exact zn _));clear hn6 hg6)
 clear q0;have q0:=HQ6.out.cells 0 _ rfl;have q1:=HQ6.out.cells 1 _ rfl;have HR6:Hid (zf w6 w.heap.size [.slice none 0 0,.int .i64 0] 49):=zH (HQ1.out.keep HB6.out (by omega));have r0:=HR6.out.cells 0 _ rfl;have r1:=HR6.out.cells 1 _ rfl;have f0:=HR6.out.free 0;have f1:=HR6.out.free 1;go_wp2_with fail
 have hW7:zf ((w6.setCell ⟨w.heap.size,0,none⟩ (.slice (some ⟨g,0,none⟩) n n)).setCell ⟨w.heap.size,1,none⟩ (.int .i64 most)) w.heap.size [.slice (some ⟨g,0,none⟩) n n,.int .i64 most] 49:=(HR6.out.set 0 _).set 1 _;have p0:=hW7.cells 0 _ rfl;have p1:=hW7.cells 1 _ rfl;refine bodyPost_ret (v:= .agg #[.slice (some ⟨g,0,none⟩) n n,.int .i64 most]) (by simp[results,Tryz.results30,go_sem,p0,p1]) rfl ⟨g,rfl,by omega,?_,?_⟩
 ·exact((Below.heap_setCell _ _ _ g (by show g≠w.heap.size;omega)).trans (Below.heap_setCell _ _ _ g (by show g≠w.heap.size;omega))).trans HN6.out
 ·exact((HW1.out.trans (HB6.out.mono (by omega))).setCell (p:=⟨w.heap.size,0,none⟩) (zn _) _).setCell (p:=⟨w.heap.size,1,none⟩) (zn _) _
theorem qaf{n:Nat}{a b most:Int}{L:List Int}{w:World}(hn:Hid (n≤1000))(hr:Hid (qN n a b most=(L,most))):
  Calls Tryz.prog 30 #[.int .i64 n,.int .i64 b,.int .i64 a,.int .i64 most] w fun e w'=>∃g,e= .returned (.agg #[.slice (some ⟨g,0,none⟩) n n,.int .i64 most])∧w.heap.size≤g∧zZ w' g L∧Below w.heap.size w w':=by
 have H:=qhj n a b most w hn.out;rw[hr.out]at H;exact H
theorem q9e:(Tryz.prog.info? 49).map (fun i=>(i.zero,i.size,i.bytes))=some (some (.agg #[.slice none 0 0,.int .i64 0]),2,32):=by kernel_rfl
def kY(n g:Nat)(most:Int):List Value:=[.slice (some ⟨g,0,none⟩) n n,.int .i64 most]
def Zz(n:Nat):List Nat→List Inq→List Value
 |g::gs,q::L=>kY n g q.2++Zz n gs L
 |_,_=> []
theorem qor{n:Nat}:∀{gs:List Nat} {L:List Inq},gs.length=L.length→(Zz n gs L).length=L.length*2
 | [],[],_=>rfl
 |g::gs,q::L,h=>by
  have:=qor (n:=n) (gs:=gs) (L:=L) (by simpa using h);show(kY n g q.2++Zz n gs L).length=_;rw[List.length_append,this];show 2+_=_;rw[List.length_cons];omega
 | [],_::_,h=>by simp at h
 |_::_,[],h=>by simp at h
theorem qar{n g:Nat}{q:Inq}:∀{gs:List Nat} {L:List Inq},gs.length=L.length→Zz n (gs++[g]) (L++[q])=Zz n gs L++kY n g q.2
 | [],[],_=>by show kY n g q.2++[]=_;rw[List.append_nil];rfl
 |a::gs,b::L,h=>by
  show kY n a b.2++Zz n (gs++[g]) (L++[q])=(kY n a b.2++Zz n gs L)++kY n g q.2;rw[qar (by simpa using h),List.append_assoc]
 | [],_::_,h=>by simp at h
 |_::_,[],h=>by simp at h
theorem qd0{n:Nat}:∀{gs:List Nat} {L:List Inq} {i g:Nat} {q:Inq},gs.length=L.length→gs[i]? =some g→L[i]? =some q→(Zz n gs L)[i*2]? =some (.slice (some ⟨g,0,none⟩) n n)∧(Zz n gs L)[i*2+1]? =some (.int .i64 q.2)
 |a::gs,b::L,0,g,q,_,hg,hq=>by
  simp at hg hq;subst hg;subst hq;exact⟨rfl,rfl⟩
 |a::gs,b::L,i+1,g,q,h,hg,hq=>by
  have:=qd0 (n:=n) (gs:=gs) (L:=L) (i:=i) (g:=g) (q:=q) (by simpa using h) (by simpa using hg) (by simpa using hq)
  rw[show(i+1)*2=i*2+2 by omega];exact this
 | [],_,i,g,q,_,hg,_=>by simp at hg
 |_::_,[],i,g,q,h,_,_=>by simp at h
structure jE(w:World)(B:Nat)(v:Value)(n:Nat)(gs:List Nat)(L:List Inq):Prop where
 len:gs.length=L.length
 row:w.ownsRow B 49 2 v L.length (Zz n gs L)
 co:∀(i g:Nat) (q:Inq),gs[i]? =some g→L[i]? =some q→B≤g∧q.1.length=n∧zZ w g q.1
section
variable{w w':World}{B n:Nat}{v:Value}{gs:List Nat}{L:List Inq}
theorem jE.keep(h:jE w B v n gs L)(hb:Below w.heap.size w w'):jE w' B v n gs L:=
 ⟨h.len,qG h.row hb (qi h.row),fun i g q hg hq=>by
  obtain⟨h1,h2,h3⟩:=h.co i g q hg hq;exact⟨h1,h2,h3.keep hb⟩⟩
theorem jE.snoc(h:jE w B v n gs L){o:Obj}{g9 c9 g:Nat}{q:Inq}{w9:World}(hg:B≤g∧zZ w g q.1)(hq:q.1.length=n)(hown:w9.ownsRow B 49 2 (.slice (some ⟨g9,0,none⟩) (L.length+1) c9) (L.length+1) (Zz n gs L++kY n g q.2))(hgrow:(w.alloc o).grownBy w9 v.ownBlock):
  jE w9 B (.slice (some ⟨g9,0,none⟩) (L.length+1) c9) n (gs++[g]) (L++[q]):=by
 have hne:∀{x:Nat} {l:List Int},zZ w x l→v.ownBlock≠some x:=fun {x l} hx e=>by
  rcases h.row.2 with⟨hv,_⟩|⟨g',cap,cur,hv,_,hh,_⟩
  ·rw[hv]at e;simp[Value.ownBlock]at e
  ·rw[hv]at e;have:g'=x:=by simpa[Value.ownBlock]using e
   subst this;unfold zZ zf at hx;rw[hx]at hh;injection hh with hh;injection hh with _ h2 _;exact absurd h2 (by decide)
 have hk:∀{x:Nat} {l:List Int},zZ w x l→zZ w9 x l:=fun {x l} hx=>by
  have hlt:=zf.lt hx;have h1:(w.alloc o).heap[x]? =w.heap[x]? :=Below.heap_alloc w o x hlt;exact((hgrow.block x (by simp;omega) (fun e=>hne hx e.symm)).trans h1).trans hx
 refine⟨by rw[List.length_append,List.length_append,h.len];rfl,?_,fun i a b ha hb=> ?_⟩
 ·rw[qar h.len,List.length_append];exact hown
 ·rcases Nat.lt_or_ge i L.length with r|r
  ·rw[List.getElem?_append_left (by rw[h.len];exact r)]at ha;rw[List.getElem?_append_left r]at hb;obtain⟨h1,h2,h3⟩:=h.co i a b ha hb;exact⟨h1,h2,hk h3⟩
  ·have hi:i<(L++[q]).length:=(List.getElem?_eq_some_iff.mp hb).1;have:i=L.length:=by simp at hi;omega
   subst this;rw[List.getElem?_append_right (by rw[h.len];exact zn _)]at ha;rw[List.getElem?_append_right (zn _)]at hb;simp[h.len]at ha hb;subst ha;subst hb;exact⟨hg.1,hq,hk hg.2⟩
theorem jE.app{g0 c0 nn:Nat}(h:jE w B (.slice (some ⟨g0,0,none⟩) nn c0) n gs L)(hN:L.length=nn){o:Obj}{g9 c9 g:Nat}{q:Inq}{w9:World}(hg:B≤g∧zZ w g q.1)(hq:q.1.length=n)(hown:w9.ownsRow B 49 2 (.slice (some ⟨g9,0,none⟩) (nn+1) c9) (nn+1) (Zz n gs L++kY n g q.2))(hgrow:(w.alloc o).grownBy w9 (Value.slice (some ⟨g0,0,none⟩) nn c0).ownBlock):
  jE w9 B (.slice (some ⟨g9,0,none⟩) (nn+1) c9) n (gs++[g]) (L++[q]):=by
 subst hN;exact h.snoc hg hq hown hgrow
theorem jE.row'{v:Value}{nn:Nat}(h:jE w B v n gs L)(hN:L.length=nn):w.ownsRow B 49 2 v nn (Zz n gs L):=by
 subst hN;exact h.row
theorem q5u(n g:Nat)(most:Int):∀u ∈kY n g most,u.oneCell'=true:=fun u hu=>by
 unfold kY at hu;simp at hu;rcases hu with rfl|rfl<;>rfl
theorem q67(w:World)(n g:Nat)(most:Int):∀(j:Nat) (u:Value),(kY n g most)[j]? =some u→(w.alloc (.cells #[.slice (some ⟨g,0,none⟩) n n,.int .i64 most] 49)).cell? ((⟨w.heap.size,0,none⟩:Addr).add j)=some u:=fun j u hj=>by
 have hc:=qd w [.slice (some ⟨g,0,none⟩) n n,.int .i64 most] 49;have e:(⟨w.heap.size,0,none⟩:Addr).add j=⟨w.heap.size,j,none⟩:=by unfold Addr.add;split<;>simp_all
 rw[e];exact hc j u hj
theorem jE.one{g:Nat}{q:Inq}(hg:B≤g∧zZ w g q.1)(hq:q.1.length=n)(hB:B≤w.heap.size):
  jE (w.alloc (.cells #[.slice (some ⟨g,0,none⟩) n n,.int .i64 q.2] 49)) B (.slice (some ⟨w.heap.size,0,none⟩) 1 1) n [g] [q]:=
 ⟨rfl,⟨rfl,.inr ⟨w.heap.size,1,#[.slice (some ⟨g,0,none⟩) n n,.int .i64 q.2],rfl,hB,heap_alloc_new _ _,zn _,by unfold maxLen;omega,rfl,rfl⟩⟩,fun i a b ha hb=>by
  match i,ha,hb with
  |0,ha,hb=>
   simp at ha hb;subst ha;subst hb;exact⟨hg.1,hq,hg.2.keep ((zb _ _).alloc (zn _) _)⟩
  |i+1,ha,hb=>simp at ha⟩
theorem jE.at_{g' c:Nat}(h:jE w B (.slice (some ⟨g',0,none⟩) L.length c) n gs L){i:Nat}{q:Inq}(hq:L[i]? =some q):∃g,w.cell? ⟨g',i*2,none⟩=some (.slice (some ⟨g,0,none⟩) n n)∧w.cell? ⟨g',i*2+1,none⟩=some (.int .i64 q.2)∧zZ w g q.1∧q.1.length=n∧g'<w.heap.size∧g<w.heap.size:=by
 have hi:i<gs.length:=by rw[h.len];exact(List.getElem?_eq_some_iff.mp hq).1
 obtain⟨e0,e1⟩:=qd0 (n:=n) h.len (List.getElem?_eq_getElem hi) hq;obtain⟨h1,h2,h3⟩:=h.co i _ q (List.getElem?_eq_getElem hi) hq;obtain⟨hb,hc⟩:=kb h.row;exact⟨gs[i],(hc _ _ e0).1,(hc _ _ e1).1,h3,h2,(hc _ _ e0).2,zf.lt h3⟩
end
theorem vI.slcH{w wa:World}{g n k:Nat}{EL:List (List Int)}{vs:List Value}(h:vI w g EL n k vs)(hn:EL.length=n)(hk:n≤k)(hc:n≤9223372036854775807)(hg:wa.heap.size≤g):zd (qb zo 1) 1 (zW (old wa) w) w.heap.size (some ⟨g,0,none⟩) n EL:=
 ⟨by omega,hc,fun i L hi=>by
  have hi':=(List.getElem?_eq_some_iff.mp hi).1;obtain⟨A,c,h1,h2,h3⟩:=h.row i L (by omega) hi;refine⟨_,rfl,zf.lt h.blk,A,c,?_,h2.le,h2.cap,fun j x hj=> ?_⟩
  ·have:=(zf.cells h.blk) i _ h1;rw[show Addr.add ⟨g,0,none⟩ (i*1)=⟨g,i,none⟩by unfold Addr.add;split<;>simp_all];exact QA.mpr ⟨kr.mpr hg,this⟩
  ·obtain⟨ad,e,hb,hcc⟩:=h2.row j x hj;refine⟨ad,e,hb,QA.mpr ⟨kr.mpr ?_,hcc⟩⟩;rw[zt];have:=h3 ad e;omega⟩
set_option maxHeartbeats 3200000 in
theorem qhb(m:za)(h:zl)(w:World)(H:zp w w.heap.size h m)(hn:m.classes.length≤1000)(hml:m.methods.length≤1000)(hc:∀x ∈m.methods,x.code.length≤1048576):
  Calls Tryz.prog 37 #[zr h m] w fun e w'=>∃g,e= .returned (.slice (some ⟨g,0,none⟩) m.methods.length m.methods.length)∧w.heap.size≤g∧g<w'.heap.size∧zd (qb zo 1) 1 (zW (old w) w') w'.heap.size (some ⟨g,0,none⟩) m.methods.length (jm m)∧Below w.heap.size w w':=by
 obtain⟨i0,hi,hz0,hz1,hz2⟩:=jg q53;have HW:=zH ((zb w.heap.size w).alloc (zn _) (zq h m));have HI:=zH (H.now HW.out);have HBX:=zH (qf w h m);have HZ:Hid (w.heap.size<(w.alloc (zq h m)).heap.size):=zH (by simp);have HCO:Hid (m.classes.length≤1000∧m.methods.length≤1048576∧∀x ∈m.methods,x.code.length≤1048576):=zH ⟨hn,by omega,hc⟩;obtain⟨n,hnn⟩:∃n,m.methods.length=n:=⟨_,rfl⟩
 have HN:=zH hnn;have HEL:Hid (∀k,k<n→(jm m)[k]? =some (vh m (k:Int))):=zH (fun k hk=>qca (by omega));have HEN:Hid ((jm m).length=n):=zH (by rw[q05];exact hnn);rw[hnn]at hml⊢
 have hcap:=H.methods.cap;have hle:=H.methods.le;rw[hnn]at hle;clear H hc hnn;go_enter Tryz.func37,Tryz.ntmps37;go_upto_region 1 with fail
 generalize w.alloc (zq h m)=w1 at*
 obtain⟨q0,q1,q2,q3,q4,q5,q6⟩:=HBX.out;rw[HN.out]at q3;go_wp2_with(at_make;(refine wpList_make_full _ rfl _ _ 64 rfl w1.heap.size 26 i0 (.slice none 0 0) 1 Tryz.underlying64 hi hz0 hz1 .i64 .i64 _ _ n rfl rfl rfl rfl (by rw[hz2];omega) (by unfold maxLen;omega) (zn _) ?_);intro w2 hown hgrow;have HO2:=zH hown;have HB2:=zH ((zb w1.heap.size w1).grown hgrow (zn _) (fun k hk=>by cases hk));clear hown hgrow)
 have HG2:Hid (vI w2 w1.heap.size (jm m) n 0 (List.replicate n (.slice none 0 0))):=zH (by
  have h1:=YV HO2.out;rw[JF (v:= .slice none 0 0) rfl]at h1;exact⟨h1,List.length_replicate ..,fun i L hi _=>by omega,fun i _ hi=>by rw[List.getElem?_replicate,if_pos hi]⟩)
 clear q0 q1 q2 q3 q4 q5 q6 HO2;try simp only[HN.out]
 go_loopw [11] (fun i wr=>∃(k:Nat) (vs:List Value),k≤n∧i= .int .i64 k∧Hid (vI wr w1.heap.size (jm m) n k vs)∧Hid (Below w1.heap.size w1 wr)) (fun i _=>n - (intOf i).toNat)
 case atStart=>exact⟨0,_,by omega,rfl,HG2,HB2⟩
 case round=>
  clear HG2 HB2;obtain⟨k,vs,hk,rfl,HG,HX⟩:=hrel;by_cases hlt:k<n
  ·obtain⟨q0,q1,q2,q3,q4,q5,q6⟩:=HBX.out.keep HX.out HZ.out;obtain⟨L,hL⟩:∃L,vh m (k:Int)=L:=⟨_,rfl⟩
   have HL:=zH hL;have HLE:Hid ((jm m)[k]? =some L):=zH (by rw[HEL.out k hlt,hL]);clear hL;go_wp2_with(go_at_call 53;(with_reducible refine(qd3 HI HX HCO HL).mono ?_);rintro e w5 ⟨A5,c5,rfl,hs,hA,hb⟩;have HS5:=zH hs;have HA5:Hid (∀ad,A5=some ad→w1.heap.size<ad.block):=zH (fun ad e=>by have h1:=hA ad e;have h2:=zf.lt HG.out.blk;omega);have HG5:=zH (HG.out.keep hb);have HX5:=zH (HX.out.trans (hb.mono HX.out.size));obtain⟨v0,c0⟩:=HG5.out.cell hlt;have f0:=zf.free HG5.out.blk k;clear hs hA hb)
   go_roundw;case rel=>exact⟨k+1,_,by omega,by go_num,zH (HG5.out.put hlt HLE.out HS5.out HA5.out),zH (HX5.out.setCell (p:=⟨w1.heap.size,k,none⟩) (zn _) _)⟩
   case measure=>simp[intOf];omega
  ·go_wp2_with fail
   go_ret;exact⟨w1.heap.size,rfl,Nat.le_of_lt HZ.out,zf.lt HG.out.blk,HG.out.slcH HEN.out (by omega) (by omega) (Nat.le_of_lt HZ.out),HW.out.trans (HX.out.mono (Nat.le_of_lt HZ.out))⟩
theorem qlb{m:za}{h:zl}{n:Nat}{EL:List (List Int)}{w0 w:World}(HI:Hid (zp w0 w0.heap.size h m))(HX:Hid (Below w0.heap.size w0 w))(HC:Hid (m.classes.length≤1000∧m.methods.length≤1000∧∀x ∈m.methods,x.code.length≤1048576))(HN:Hid (m.methods.length=n))(HE:Hid (jm m=EL)):
  Calls Tryz.prog 37 #[zr h m] w fun e w'=>∃g,e= .returned (.slice (some ⟨g,0,none⟩) n n)∧w.heap.size≤g∧g<w'.heap.size∧zd (qb zo 1) 1 (zW (old w) w') w'.heap.size (some ⟨g,0,none⟩) n EL∧Below w.heap.size w w':=by
 have H:=qhb m h w (HI.out.now HX.out) HC.out.1 HC.out.2.1 HC.out.2.2;rw[HN.out,HE.out]at H;exact H
section
variable(EL:List (List Int))(n:Nat)(C:Nat→Int)
def q35(f g:Nat):Bool:=decide (g=f)||(jX EL n f g&& jX EL n g f)
end
section
variable{EL:List (List Int)}{n:Nat}{C:Nat→Int}
def q6g(EL:List (List Int))(n:Nat):Prop:=∀(g:Nat),∀t ∈EL[g]?.getD [],0≤t∧t<(n:Int)
theorem qbt{f g:Nat}:q35 EL n f g=true↔g=f∨(Way EL n f g∧Way EL n g f):=by
 unfold q35;rw[Bool.or_eq_true,decide_eq_true_eq,Bool.and_eq_true,Vk,Vk]
end
section
variable{EL:List (List Int)}{n:Nat}{P:List (List Nat)}{C:Nat→Int}
theorem JG{i a:Nat}(hi:i<P.length)(h:a ∈P[i]):a ∈P.flatten:=List.mem_flatten.mpr ⟨_,List.getElem_mem hi,h⟩
theorem qmm{i j a:Nat}(h:P.flatten.Nodup)(hi:i<P.length)(hj:j<P.length)(h1:a ∈P[i])(h2:a ∈P[j]):i=j:=by
 induction P generalizing i j with
 |nil=>simp at hi
 |cons c P ih=>
  rw[List.flatten_cons,List.nodup_append]at h;obtain⟨n1,n2,n3⟩:=h;cases i with
  |zero=>
   cases j with
   |zero=>rfl
   |succ j=>exact absurd rfl (n3 a h1 a (JG (by simpa using hj) h2))
  |succ i=>
   cases j with
   |zero=>exact absurd rfl (n3 a h2 a (JG (by simpa using hi) h1))
   |succ j=>rw[ih n2 (by simpa using hi) (by simpa using hj) h1 h2]
theorem Ql.way(h:Ql EL n P){i a b:Nat}(hi:i<P.length)(ha:a ∈P[i])(hb:b<n)(hw:Way EL n a b):∃j,∃hj:j<P.length,j≤i∧b ∈P[j]:=by
 induction hw with
 |one e=>exact h.ord i hi a ha _ hb e
 | @snoc p j _ hp e ih=>
  obtain⟨k,hk,hki,hm⟩:=ih hp;obtain⟨l,hl,hlk,hm2⟩:=h.ord k hk p hm _ hb e;exact⟨l,hl,by omega,hm2⟩
theorem Ql.part(h:Ql EL n P){i f g:Nat}(hi:i<P.length)(hf:f ∈P[i]):g ∈P[i]↔g<n∧q35 EL n f g=true:=by
 have hfn:=h.lt f (JG hi hf);rw[qbt];constructor
 ·intro hg;refine⟨h.lt g (JG hi hg),?_⟩;rcases h.ring _ (List.getElem_mem hi) f hf g hg with e|h1
  ·exact .inl e.symm
  ·rcases h.ring _ (List.getElem_mem hi) g hg f hf with e|h2
   ·exact .inl e
   ·exact .inr ⟨h1,h2⟩
 ·rintro⟨hgn,rfl|⟨h1,h2⟩⟩
  ·exact hf
  ·obtain⟨j,hj,hji,hm⟩:=h.way hi hf hgn h1;obtain⟨k,hk,hkj,hm2⟩:=h.way hj hm hfn h2;have:=qmm h.nod hi hk hf hm2;have:j=i:=by omega
   subst this;exact hm
theorem qqu{c d:List Nat}(hc:c.Pairwise (· < ·))(hd:d.Pairwise (· < ·))(h:∀x,x ∈c↔x ∈d):c=d:=by
 refine List.Perm.eq_of_pairwise (le:=(· < ·)) (fun a b _ _ h1 h2=>absurd h1 (by omega)) hc hd ?_;exact(List.perm_ext_iff_of_nodup (hc.imp (fun {a b} q=>by omega)) (hd.imp (fun {a b} q=>by omega))).mpr h
theorem Ql.eq(h:Ql EL n P){i f:Nat}(hi:i<P.length)(hf:f ∈P[i]):P[i]=(List.range n).filter (q35 EL n f):=by
 refine qqu (h.srt _ (List.getElem_mem hi)).2 (List.pairwise_lt_range.filter _) (fun x=> ?_);rw[h.part hi hf,List.mem_filter,List.mem_range]
theorem Ql.cyc(h:Ql EL n P){i f:Nat}(hi:i<P.length)(hf:f ∈P[i]):(∃a ∈P[i],∃b ∈P[i],vR EL a b)↔jX EL n f f=true:=by
 have hfn:=h.lt f (JG hi hf);rw[Vk];constructor
 ·rintro⟨a,ha,b,hb,e⟩;have h1:f=a∨Way EL n f a:=h.ring _ (List.getElem_mem hi) f hf a ha;have h2:b=f∨Way EL n b f:=h.ring _ (List.getElem_mem hi) b hb f hf;have han:=h.lt a (JG hi ha);have hbn:=h.lt b (JG hi hb);have h3:Way EL n f b:=by
   rcases h1 with rfl|h1
   ·exact .one e
   ·exact .snoc h1 han e
  rcases h2 with rfl|h2
  ·exact h3
  ·exact h3.join hbn h2
 ·intro q;cases q with
  |one e=>exact⟨f,hf,f,hf,e⟩
  | @snoc p _ q hp e=>exact⟨p,(h.part hi hf).mpr ⟨hp,qbt.mpr (.inr ⟨q,.one e⟩)⟩,f,hf,e⟩
end
theorem qk7{EL:List (List Int)}{n:Nat}{E:Option Addr}{ce:Nat}{w:World}(hE:Hid (zd (qb zo 1) 1 w w.heap.size E ce EL))(hn:Hid (EL.length=n))(hl:n≤12)(he:Hid (∀l ∈EL,l.length≤1048576)):
  Calls Tryz.prog 38 #[.slice E n ce] w (qcl EL n w):=
 qg3 EL n E ce w hE.out hn.out (by omega) he.out
theorem qga{EL:List (List Int)}{n np:Nat}{E:Option Addr}{ce:Nat}{p:List Nat}{A:Option Addr}{c:Nat}{w:World}{b:Bool}(hE:Hid (zd (qb zo 1) 1 w w.heap.size E ce EL))(hn:Hid (EL.length=n))(hl:n≤12)(he:Hid (q6g EL n∧∀g:Nat,(EL[g]?.getD []).length≤12))(hp:Hid ((∀g ∈p,g<n)∧p.length≤12))(hA:Hid (zz w w.heap.size A (qg p)))(hc:Hid (p.length≤c∧c≤9223372036854775807))(hk:Hid (p.length=np))(hb:Hid (Jk EL p=b)):
  Calls Tryz.prog 40 #[.slice E n ce,.slice A np c] w fun e w'=>e= .returned (.bool b)∧Below w.heap.size w w':=by
 obtain rfl:=hk.out;have H:=qew EL n E ce p A c w hE.out hn.out (by omega) he.out.1 hp.out.1 hA.out hc.out.1 hc.out.2;rw[hb.out]at H;exact H
theorem qlh{w:World}{gi:Nat}{p:List Nat}(hg:gi<w.heap.size)(h:∀(j v:Nat),p[j]? =some v→w.cell? ⟨gi,j,none⟩=some (.int .i64 (v:Int))):zz w w.heap.size (some ⟨gi,0,none⟩) (qg p):=fun j u hj=>by
 unfold qg at hj;rw[List.getElem?_map]at hj;cases hp:p[j]? with
 |none=>rw[hp]at hj;cases hj
 |some v=>
  rw[hp]at hj;injection hj with hj;subst hj;refine⟨_,rfl,hg,?_⟩;rw[show Addr.add ⟨gi,0,none⟩ j=⟨gi,j,none⟩by unfold Addr.add;split<;>simp_all];exact h j v hp
theorem qrg{EL:List (List Int)}{n:Nat}{P:List (List Nat)}(h:Ql EL n P){i f:Nat}(hi:i<P.length)(hf:f ∈P[i]):jX EL n f f=Jk EL P[i]:=
 Bool.eq_iff_iff.mpr ((h.cyc hi hf).symm.trans qrh.symm)
theorem qp5(m:za):q6g (jm m) m.methods.length:=fun g t ht=>by
 unfold jm at ht;rw[List.getElem?_map]at ht;cases hx:m.methods[g]? with
 |none=>rw[hx]at ht;cases ht
 |some x=>
  rw[hx]at ht;have ht:t ∈jV m x m.methods.length:=ht;unfold jV at ht;obtain⟨k,hk,rfl⟩:=List.mem_map.mp ht;rw[List.mem_filter,List.mem_range]at hk;omega
end Go.Proofs.YtdbfllajopcccaaGreat
