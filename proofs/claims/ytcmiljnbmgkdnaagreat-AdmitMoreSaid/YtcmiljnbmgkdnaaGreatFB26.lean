import Derived.Test.YtcmiljnbmgkdnaaGreatFB23
namespace Go.Proofs.YtcmiljnbmgkdnaaGreat
set_option maxRecDepth 100000
set_option linter.unusedVariables false
set_option linter.unusedSimpArgs false
def q6p(op:Int)(u v:Int×Int):Prop:=(u.1=6∧v.1=0)∨(u.1=7∧v.1=4∧¬op=34)∨(u.1=8∧v.1=4∧op=34)∨(u=v∧(u.1=1∨u.1=2∨u.1=3))
def WR(op:Int):List (Int×Int)→List (Int×Int)→Prop
 | [],[]=>True
 |u::W,v::T=>q6p op u v∧WR op W T
 |_,_=>False
theorem qta{sup:List Int}{op:Int}{t u v:Int×Int}(h:q6p op u v):jS sup t u=Zf sup op t v:=by
 unfold jS Zf;rcases h with⟨h1,h2⟩|⟨h1,h2,h3⟩|⟨h1,h2,h3⟩|⟨rfl,h2⟩
 ·rw[Xb h1,Xb h2]
 ·rw[Xa (by omega),Xb h1,Xa (by omega),Xb h2,Xg h3];simp
 ·rw[Xa (by omega),Xa (by omega),Xb h1,Xa (by omega),Xb h2,Xm h3];simp
 ·rw[Xa (by omega),Xa (by omega),Xa (by omega),Xa (by omega),Xa (by omega)]
theorem q7d{op:Int}:∀{W T:List (Int×Int)},WR op W T→W.length=T.length
 | [],[],_=>rfl
 |_::W,_::T,h=>by rw[XJ,XJ,q7d h.2]
 | [],_::_,h=>h.elim
 |_::_,[],h=>h.elim
theorem qf0{sup:List Int}{op:Int}:∀{W T:List (Int×Int)} (L:List (Int×Int)),WR op W T→(L.zip W).all (fun p=>jS sup p.1 p.2)=(L.zip T).all (fun p=>Zf sup op p.1 p.2)
 | [],[],L,_=>by simp
 |u::W,v::T,[],h=>by simp
 |u::W,v::T,t::L,h=>by
  rw[List.zip_cons_cons,List.zip_cons_cons,List.all_cons,List.all_cons,qf0 L h.2];show(jS sup t u&& _)=(Zf sup op t v&& _)
  rw[qta h.1]
 | [],_::_,_,h=>h.elim
 |_::_,[],_,h=>h.elim
theorem qbw{k n c:Int}(h:jn k n c=true):k=1∨k=2∨k=3:=by
 unfold jn at h;rw[Xt]at h;omega
theorem q6o{op:Int}{c:Int}:∀{L:List (Int×Int)},(∀t ∈L,jn t.1 t.2 c=true)→WR op L L
 | [],_=>trivial
 |t::L,h=>⟨.inr (.inr (.inr ⟨rfl,qbw (h t (XD ..))⟩)),q6o fun u hu=>h u (XF _ hu)⟩
theorem q1n{op:Int}{c:Int}{t:Int×Int}(h:jn t.1 t.2 c=true):WR op [t] [t]:=⟨.inr (.inr (.inr ⟨rfl,qbw h⟩)),trivial⟩
theorem qal{m:za}{x:zh}{f:Nat}{op a b:Int}(hm:zN m)(hg:m.methods[f]? =some x)(hi:qf op a b=true)(hn:zZ m x op a b=true)(h6:¬op=6):WR op (zE m x op a b) (vu m x op a b):=by
 obtain⟨o0,o1,a0,a1,b0,b1⟩:=Qr hi;have hx:=hm.method (Xs hg);have hc:op=1∨op=2∨op=3∨op=4∨op=5∨op=7∨op=8∨op=9∨op=10∨op=11∨op=12∨op=13∨op=14∨op=15∨op=16∨op=17∨op=18∨op=19∨op=20∨op=21∨op=22∨op=23∨op=24∨op=25∨op=26∨op=27∨op=28∨op=29∨op=30∨op=31∨op=32∨op=33∨op=34:=by omega
 rcases hc with rfl|rfl|rfl|rfl|rfl|rfl|rfl|rfl|rfl|rfl|rfl|rfl|rfl|rfl|rfl|rfl|rfl|rfl|rfl|rfl|rfl|rfl|rfl|rfl|rfl|rfl|rfl|rfl|rfl|rfl|rfl|rfl|rfl;all_goals first|(simp[zE,vu,WR,q6p];done)|skip
 ·have e1:zE m x 4 a b=[qM x a]:=by simp[zE]
  have e2:vu m x 4 a b=[qM x a]:=by simp[vu]
  rw[e1,e2];have hl:=q5k (op:=4) (.inr rfl) hn;have hmem:=Jt (l:=x.args++x.locals) a0 (by rw[Xe];omega);have hlo:qM x a=(x.args++x.locals)[a.toNat]?.getD (0,0):=by unfold qM;rw[Xb a0]
  rw[hlo];rcases Xn.mp hmem with q|q
  ·exact q1n (hx.at_ _ q)
  ·exact q1n (hx.lt _ q)
 ·have e1:zE m x 28 a b=[(3,a),JA m a b]:=by simp[zE]
  have e2:vu m x 28 a b=[(3,a),JA m a b]:=by simp[vu]
  rw[e1,e2];exact⟨.inr (.inr (.inr ⟨rfl,.inr (.inr rfl)⟩)),q1n (q4l hm (Jt b0 (q0s (op:=28) (.inr rfl) hn).2))⟩
 ·have e1:zE m x 30 a b=[Jr m a]:=by simp[zE]
  have e2:vu m x 30 a b=[Jr m a]:=by simp[vu]
  rw[e1,e2];exact q1n (hm.st _ (Jt a0 (q0q (op:=30) (.inr rfl) hn)))
 ·have e1:zE m x 31 a b=(zw m a).args:=by simp[zE]
  have e2:vu m x 31 a b=(zw m a).args:=by simp[vu]
  rw[e1,e2];have h1:=VI hn;have h2:a.toNat<m.methods.length:=by omega
  have h3:zw m a ∈m.methods:=by unfold zw;rw[Xc h2];exact Xf h2
  exact q6o (hm.method h3).at_
 ·have e1:zE m x 32 a b=(3,a)::(zw m (kY m a b)).args.drop 1:=by simp[zE]
  have e2:vu m x 32 a b=(3,a)::(zw m (kY m a b)).args.drop 1:=by simp[vu]
  rw[e1,e2];obtain⟨_,k,y,hk,hy,_⟩:=VH hm a0 b0 hn;have h3:zw m (kY m a b)=y:=by unfold zw kY;rw[hk,Wb,Xi,hy];rfl
  rw[h3];exact⟨.inr (.inr (.inr ⟨rfl,.inr (.inr rfl)⟩)),q6o fun t ht=>(hm.method (Xs hy)).at_ t (List.mem_of_mem_drop ht)⟩
 ·have e1:zE m x 33 a b=jO x:=by simp[zE]
  have e2:vu m x 33 a b=jO x:=by simp[vu]
  rw[e1,e2];unfold jO;by_cases h5:x.ret.1=5
  ·rw[Xb h5];trivial
  ·rw[Xa h5];rcases hx.rt with h|h
   ·rw[h]at h5;exact absurd rfl h5
   ·exact q1n h
def q2u(sup:List Int)(W gv:List (Int×Int))(nl:List Int)(st:List (Int×Int)):QK:=
 if QX sup (st.drop (st.length - W.length)) W=true then(if 8<(st.take (st.length - W.length)++gv).length then jf 4 else⟨st.take (st.length - W.length)++gv,nl,0⟩)else jf 4
theorem q96{sup:List Int}{op:Int}{W TK GV:List (Int×Int)}{nl:List Int}{st:List (Int×Int)}(h:WR op W TK):q2u sup W GV nl st=ku sup op TK GV nl st:=by
 have hl:=q7d h;unfold q2u ku QX;rw[hl,qf0 _ h];have hd:(st.drop (st.length - TK.length)).length=st.length - (st.length - TK.length):=XT;by_cases g:st.length<TK.length
 ·rw[Xg (by omega),Bool.false_and,Xa (by simp),Xb (.inl g)]
 ·rw[Xm (by omega),Bool.true_and];have ht:(st.take (st.length - TK.length)++GV).length=st.length - TK.length+GV.length:=by rw[Xe,XO];omega
  rw[ht];by_cases g8:8<st.length - TK.length+GV.length
  ·rw[Xb g8,Xb (Or.inr g8)];split<;>rfl
  ·rw[Xa g8,Xa (show ¬(st.length<TK.length∨8<st.length - TK.length+GV.length)from fun q=>q.elim g g8)]
theorem qdn{m:za}{x:zh}{pc op a b:Int}(hn:zZ m x op a b=true):ZZ x.code.length (qU pc op a)=(qU pc op a).head?.any (fun n=>decide ((x.code.length:Int)≤n)):=by
 unfold qU ZZ;by_cases h18:op=18
 ·rw[Xb h18];simp
 ·rw[Xa h18];by_cases h19:op=19
  ·rw[Xb h19];have:=q9q (.inr h19) hn;simp;omega
  ·rw[Xa h19];by_cases h33:op=33
   ·rw[Xb h33];rfl
   ·rw[Xa h33];simp
theorem qrr{m:za}{x:zh}{pc op a b:Int}{st:List (Int×Int)}(hn:zZ m x op a b=true)(h:ZZ x.code.length (qU pc op a)=true):qX m x pc op a b st=jf 4:=by
 unfold qX;rw[Xb (by rw[←qdn hn];exact h)]
theorem qpy{st:List (Int×Int)}(h:st≠ []):st.drop (st.length - 1)=[st.getLast?.getD (0,0)]:=by
 have h0:0<st.length:=List.length_pos_iff.mpr h;rw[Wq (by omega),List.drop_of_length_le (by omega),List.getLast?_eq_getElem?,Xc (by omega)];rfl
theorem qn9{m:za}{x:zh}{f:Nat}{pc op a b:Int}{st:List (Int×Int)}(hm:zN m)(hg:m.methods[f]? =some x)(hi:qf op a b=true)(hn:zZ m x op a b=true)(h:ZZ x.code.length (qU pc op a)=false):
  qX m x pc op a b st=q2u (zz m.classes) (zE m x op a b) (zV m x op a b (st.drop (st.length - (zE m x op a b).length))) (qU pc op a) st:=by
 have hf:¬(qU pc op a).head?.any (fun n=>decide ((x.code.length:Int)≤n))=true:=by rw[←qdn hn,h];simp
 by_cases h6:op=6
 ·subst h6;have e1:zE m x 6 a b=[(6,0)]:=by simp[zE]
  rw[e1];by_cases hs:st=[]
  ·subst hs;rw[qas];rfl
  ·rw[q2t hf (fun q=>hs q.2)];have e2:takes m x 6 a b st=[(0,0)]:=by unfold takes;rw[Xb ⟨rfl,hs⟩]
   have e3:kI m x 6 a b st=[st.getLast?.getD (0,0),st.getLast?.getD (0,0)]:=by unfold kI;rw[Xb ⟨rfl,hs⟩]
   have e4:zV m x 6 a b (st.drop (st.length - [((6:Int),(0:Int))].length))=[st.getLast?.getD (0,0),st.getLast?.getD (0,0)]:=by
    unfold zV;rw[Xb rfl];show st.drop (st.length - 1)++st.drop (st.length - 1)=_;rw[qpy hs];rfl
   rw[e2,e3,e4];exact(q96 (show WR 6 [(6,0)] [(0,0)]from⟨.inl ⟨rfl,rfl⟩,trivial⟩)).symm
 ·rw[q2t hf (fun q=>h6 q.1)];have e2:takes m x op a b st=vu m x op a b:=by unfold takes;rw[Xa (fun q=>h6 q.1)]
  have e3:kI m x op a b st=jg m x op a b:=by unfold kI;rw[Xa (fun q=>h6 q.1)]
  have e4:∀tk,zV m x op a b tk=jg m x op a b:=fun tk=>by unfold zV;rw[Xa h6]
  rw[e2,e3,e4];exact(q96 (qal hm hg hi hn h6)).symm
theorem qmt{m:za}{x:zh}{f:Nat}{op a b:Int}(hm:zN m)(hg:m.methods[f]? =some x)(hi:qf op a b=true)(hn:zZ m x op a b=true):(zE m x op a b).length=if op=6 then 1 else(vu m x op a b).length:=by
 by_cases h6:op=6
 ·subst h6;rw[Xb rfl];simp[zE]
 ·rw[Xa h6];exact q7d (qal hm hg hi hn h6)
end Go.Proofs.YtcmiljnbmgkdnaaGreat
