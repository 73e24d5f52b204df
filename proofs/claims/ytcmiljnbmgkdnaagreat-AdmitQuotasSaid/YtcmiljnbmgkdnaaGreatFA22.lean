import Derived.Test.YtcmiljnbmgkdnaaGreatFA19
namespace Go.Proofs.YtcmiljnbmgkdnaaGreat
set_option maxRecDepth 100000
set_option linter.unusedVariables false
set_option linter.unusedSimpArgs false
def q5r(op:Int)(u v:Int×Int):Prop:=(u.1=6∧v.1=0)∨(u.1=7∧v.1=4∧¬op=34)∨(u.1=8∧v.1=4∧op=34)∨(u=v∧(u.1=1∨u.1=2∨u.1=3))
def WR(op:Int):List (Int×Int)→List (Int×Int)→Prop
 | [],[]=>True
 |u::W,v::T=>q5r op u v∧WR op W T
 |_,_=>False
theorem qs5{sup:List Int}{op:Int}{t u v:Int×Int}(h:q5r op u v):vo sup t u=jo sup op t v:=by
 unfold vo jo;rcases h with⟨h1,h2⟩|⟨h1,h2,h3⟩|⟨h1,h2,h3⟩|⟨rfl,h2⟩
 ·rw[Xb h1,Xb h2]
 ·rw[Xa (by omega),Xb h1,Xa (by omega),Xb h2,Xf h3];simp
 ·rw[Xa (by omega),Xa (by omega),Xb h1,Xa (by omega),Xb h2,Xh h3];simp
 ·rw[Xa (by omega),Xa (by omega),Xa (by omega),Xa (by omega),Xa (by omega)]
theorem q6a{op:Int}:∀{W T:List (Int×Int)},WR op W T→W.length=T.length
 | [],[],_=>rfl
 |_::W,_::T,h=>by rw[XL,XL,q6a h.2]
 | [],_::_,h=>h.elim
 |_::_,[],h=>h.elim
theorem qec{sup:List Int}{op:Int}:∀{W T:List (Int×Int)} (L:List (Int×Int)),WR op W T→(L.zip W).all (fun p=>vo sup p.1 p.2)=(L.zip T).all (fun p=>jo sup op p.1 p.2)
 | [],[],L,_=>by simp
 |u::W,v::T,[],h=>by simp
 |u::W,v::T,t::L,h=>by
  rw[List.zip_cons_cons,List.zip_cons_cons,List.all_cons,List.all_cons,qec L h.2];show(vo sup t u&& _)=(jo sup op t v&& _)
  rw[qs5 h.1]
 | [],_::_,_,h=>h.elim
 |_::_,[],_,h=>h.elim
theorem qbh{k n c:Int}(h:qA k n c=true):k=1∨k=2∨k=3:=by
 unfold qA at h;rw[Xr]at h;omega
theorem q5q{op:Int}{c:Int}:∀{L:List (Int×Int)},(∀t ∈L,qA t.1 t.2 c=true)→WR op L L
 | [],_=>trivial
 |t::L,h=>⟨.inr (.inr (.inr ⟨rfl,qbh (h t (XE ..))⟩)),q5q fun u hu=>h u (XI _ hu)⟩
theorem q0p{op:Int}{c:Int}{t:Int×Int}(h:qA t.1 t.2 c=true):WR op [t] [t]:=⟨.inr (.inr (.inr ⟨rfl,qbh h⟩)),trivial⟩
theorem qa3{m:za}{x:zf}{f:Nat}{op a b:Int}(hm:zK m)(hg:m.methods[f]? =some x)(hi:qp op a b=true)(hn:zC m x op a b=true)(h6:¬op=6):WR op (zJ m x op a b) (zB m x op a b):=by
 obtain⟨o0,o1,a0,a1,b0,b1⟩:=Qn hi;have hx:=hm.method (Xo hg);have hc:op=1∨op=2∨op=3∨op=4∨op=5∨op=7∨op=8∨op=9∨op=10∨op=11∨op=12∨op=13∨op=14∨op=15∨op=16∨op=17∨op=18∨op=19∨op=20∨op=21∨op=22∨op=23∨op=24∨op=25∨op=26∨op=27∨op=28∨op=29∨op=30∨op=31∨op=32∨op=33∨op=34:=by omega
 rcases hc with rfl|rfl|rfl|rfl|rfl|rfl|rfl|rfl|rfl|rfl|rfl|rfl|rfl|rfl|rfl|rfl|rfl|rfl|rfl|rfl|rfl|rfl|rfl|rfl|rfl|rfl|rfl|rfl|rfl|rfl|rfl|rfl|rfl;all_goals first|(simp[zJ,zB,WR,q5r];done)|skip
 ·have e1:zJ m x 4 a b=[qm x a]:=by simp[zJ]
  have e2:zB m x 4 a b=[qm x a]:=by simp[zB]
  rw[e1,e2];have hl:=q4u (op:=4) (.inr rfl) hn;have hmem:=Jw (l:=x.args++x.locals) a0 (by rw[Xt];omega);have hlo:qm x a=(x.args++x.locals)[a.toNat]?.getD (0,0):=by unfold qm;rw[Xb a0]
  rw[hlo];rcases Xs.mp hmem with q|q
  ·exact q0p (hx.at_ _ q)
  ·exact q0p (hx.lt _ q)
 ·have e1:zJ m x 28 a b=[(3,a),ZL m a b]:=by simp[zJ]
  have e2:zB m x 28 a b=[(3,a),ZL m a b]:=by simp[zB]
  rw[e1,e2];exact⟨.inr (.inr (.inr ⟨rfl,.inr (.inr rfl)⟩)),q0p (q3q hm (Jw b0 (Yw (op:=28) (.inr rfl) hn).2))⟩
 ·have e1:zJ m x 30 a b=[ZF m a]:=by simp[zJ]
  have e2:zB m x 30 a b=[ZF m a]:=by simp[zB]
  rw[e1,e2];exact q0p (hm.st _ (Jw a0 (Yt (op:=30) (.inr rfl) hn)))
 ·have e1:zJ m x 31 a b=(zu m a).args:=by simp[zJ]
  have e2:zB m x 31 a b=(zu m a).args:=by simp[zB]
  rw[e1,e2];have h1:=YA hn;have h2:a.toNat<m.methods.length:=by omega
  have h3:zu m a ∈m.methods:=by unfold zu;rw[Xc h2];exact Xd h2
  exact q5q (hm.method h3).at_
 ·have e1:zJ m x 32 a b=(3,a)::(zu m (kB m a b)).args.drop 1:=by simp[zJ]
  have e2:zB m x 32 a b=(3,a)::(zu m (kB m a b)).args.drop 1:=by simp[zB]
  rw[e1,e2];obtain⟨_,k,y,hk,hy,_⟩:=Yz hm a0 b0 hn;have h3:zu m (kB m a b)=y:=by unfold zu kB;rw[hk,XY,Xe,hy];rfl
  rw[h3];exact⟨.inr (.inr (.inr ⟨rfl,.inr (.inr rfl)⟩)),q5q fun t ht=>(hm.method (Xo hy)).at_ t (List.mem_of_mem_drop ht)⟩
 ·have e1:zJ m x 33 a b=qR x:=by simp[zJ]
  have e2:zB m x 33 a b=qR x:=by simp[zB]
  rw[e1,e2];unfold qR;by_cases h5:x.ret.1=5
  ·rw[Xb h5];trivial
  ·rw[Xa h5];rcases hx.rt with h|h
   ·rw[h]at h5;exact absurd rfl h5
   ·exact q0p h
def q1v(sup:List Int)(W gv:List (Int×Int))(nl:List Int)(st:List (Int×Int)):QK:=
 if Jb sup (st.drop (st.length - W.length)) W=true then(if 8<(st.take (st.length - W.length)++gv).length then qw 4 else⟨st.take (st.length - W.length)++gv,nl,0⟩)else qw 4
theorem q8j{sup:List Int}{op:Int}{W TK GV:List (Int×Int)}{nl:List Int}{st:List (Int×Int)}(h:WR op W TK):q1v sup W GV nl st=vC sup op TK GV nl st:=by
 have hl:=q6a h;unfold q1v vC Jb;rw[hl,qec _ h];have hd:(st.drop (st.length - TK.length)).length=st.length - (st.length - TK.length):=XF;by_cases g:st.length<TK.length
 ·rw[Xf (by omega),Bool.false_and,Xa (by simp),Xb (.inl g)]
 ·rw[Xh (by omega),Bool.true_and];have ht:(st.take (st.length - TK.length)++GV).length=st.length - TK.length+GV.length:=by rw[Xt,XU];omega
  rw[ht];by_cases g8:8<st.length - TK.length+GV.length
  ·rw[Xb g8,Xb (Or.inr g8)];split<;>rfl
  ·rw[Xa g8,Xa (show ¬(st.length<TK.length∨8<st.length - TK.length+GV.length)from fun q=>q.elim g g8)]
theorem qd7{m:za}{x:zf}{pc op a b:Int}(hn:zC m x op a b=true):ZT x.code.length (qE pc op a)=(qE pc op a).head?.any (fun n=>decide ((x.code.length:Int)≤n)):=by
 unfold qE ZT;by_cases h18:op=18
 ·rw[Xb h18];simp
 ·rw[Xa h18];by_cases h19:op=19
  ·rw[Xb h19];have:=q96 (.inr h19) hn;simp;omega
  ·rw[Xa h19];by_cases h33:op=33
   ·rw[Xb h33];rfl
   ·rw[Xa h33];simp
theorem qqk{m:za}{x:zf}{pc op a b:Int}{st:List (Int×Int)}(hn:zC m x op a b=true)(h:ZT x.code.length (qE pc op a)=true):qx m x pc op a b st=qw 4:=by
 unfold qx;rw[Xb (by rw[←qd7 hn];exact h)]
theorem qow{st:List (Int×Int)}(h:st≠ []):st.drop (st.length - 1)=[st.getLast?.getD (0,0)]:=by
 have h0:0<st.length:=List.length_pos_iff.mpr h;rw[Wr (by omega),List.drop_of_length_le (by omega),List.getLast?_eq_getElem?,Xc (by omega)];rfl
theorem qm7{m:za}{x:zf}{f:Nat}{pc op a b:Int}{st:List (Int×Int)}(hm:zK m)(hg:m.methods[f]? =some x)(hi:qp op a b=true)(hn:zC m x op a b=true)(h:ZT x.code.length (qE pc op a)=false):
  qx m x pc op a b st=q1v (zt m.classes) (zJ m x op a b) (zU m x op a b (st.drop (st.length - (zJ m x op a b).length))) (qE pc op a) st:=by
 have hf:¬(qE pc op a).head?.any (fun n=>decide ((x.code.length:Int)≤n))=true:=by rw[←qd7 hn,h];simp
 by_cases h6:op=6
 ·subst h6;have e1:zJ m x 6 a b=[(6,0)]:=by simp[zJ]
  rw[e1];by_cases hs:st=[]
  ·subst hs;rw[q4i];rfl
  ·rw[q02 hf (fun q=>hs q.2)];have e2:takes m x 6 a b st=[(0,0)]:=by unfold takes;rw[Xb ⟨rfl,hs⟩]
   have e3:vM m x 6 a b st=[st.getLast?.getD (0,0),st.getLast?.getD (0,0)]:=by unfold vM;rw[Xb ⟨rfl,hs⟩]
   have e4:zU m x 6 a b (st.drop (st.length - [((6:Int),(0:Int))].length))=[st.getLast?.getD (0,0),st.getLast?.getD (0,0)]:=by
    unfold zU;rw[Xb rfl];show st.drop (st.length - 1)++st.drop (st.length - 1)=_;rw[qow hs];rfl
   rw[e2,e3,e4];exact(q8j (show WR 6 [(6,0)] [(0,0)]from⟨.inl ⟨rfl,rfl⟩,trivial⟩)).symm
 ·rw[q02 hf (fun q=>h6 q.1)];have e2:takes m x op a b st=zB m x op a b:=by unfold takes;rw[Xa (fun q=>h6 q.1)]
  have e3:vM m x op a b st=zy m x op a b:=by unfold vM;rw[Xa (fun q=>h6 q.1)]
  have e4:∀tk,zU m x op a b tk=zy m x op a b:=fun tk=>by unfold zU;rw[Xa h6]
  rw[e2,e3,e4];exact(q8j (qa3 hm hg hi hn h6)).symm
theorem qlr{m:za}{x:zf}{f:Nat}{op a b:Int}(hm:zK m)(hg:m.methods[f]? =some x)(hi:qp op a b=true)(hn:zC m x op a b=true):(zJ m x op a b).length=if op=6 then 1 else(zB m x op a b).length:=by
 by_cases h6:op=6
 ·subst h6;rw[Xb rfl];simp[zJ]
 ·rw[Xa h6];exact q6a (qa3 hm hg hi hn h6)
end Go.Proofs.YtcmiljnbmgkdnaaGreat
