import Derived.Test.YtdbfllajopcccaaGreatFA29
namespace Go.Proofs.YtdbfllajopcccaaGreat
set_option maxRecDepth 100000
set_option linter.unusedVariables false
set_option linter.unusedSimpArgs false
open Go.ChangeShapes Go.WideShapes Go.ChangeAt Go.RowKit
def qa(x:ze):ze:={x with pot:=0,phi:=[]}
def zC(m:za):za:={m with methods:=m.methods.map qa}
theorem q02(m:za)(a:Int):zm (zC m) a=qa (zm m a):=by
 unfold zm zC;simp only[List.getElem?_map];cases m.methods[a.toNat]? <;>rfl
theorem q2k(m:za):(zC m).methods.length=m.methods.length:=List.length_map _
theorem qes(m:za)(x:ze)(op a b:Int):zE (zC m) (qa x) op a b=zE m x op a b:=by
 unfold zE;simp only[q02];rfl
theorem qfg(m:za)(x:ze)(op a b:Int):zB (zC m) (qa x) op a b=zB m x op a b:=by
 unfold zB;simp only[q02];rfl
theorem qet(m:za)(x:ze)(pc op a b:Int)(st:List (Int×Int)):qr (zC m) (qa x) pc op a b st=qr m x pc op a b st:=by
 have h1:qO (zC m) (qa x) op a b st=qO m x op a b st:=by unfold qO;rw[qes]
 have h2:ju (zC m) (qa x) op a b st=ju m x op a b st:=by unfold ju;rw[qfg]
 unfold qr;rw[h1,h2];rfl
theorem q7v(m:za)(f pc:Int)(st:List (Int×Int)):zK (zC m) f pc st=zK m f pc st:=by
 unfold zK;rw[q02,q2k];show(if 0≤f∧f<m.methods.length∧0≤pc∧pc<(zm m f).code.length then(match(zm m f).code[pc.toNat]? with|some i=>qr (zC m) (qa (zm m f)) pc i.1 i.2.1 i.2.2 st|none=>qL 1)else qL 1)=_;split
 ·cases(zm m f).code[pc.toNat]? with
  |none=>rfl
  |some i=>exact qet ..
 ·rfl
section
variable{m x:za}
theorem q0x(h:zC x=zC m)(f pc:Int)(st:List (Int×Int)):zK x f pc st=zK m f pc st:=by rw[←q7v x,h,q7v]
theorem qhr(h:zC x=zC m)(a:Int):qa (zm x a)=qa (zm m a):=by rw[←q02,h,q02]
theorem YY(h:zC x=zC m)(a:Int):(zm x a).code=(zm m a).code:=show(qa (zm x a)).code=(qa (zm m a)).code by rw[qhr h a]
theorem Qz(h:zC x=zC m):x.methods.length=m.methods.length:=by rw[←q2k x,h,q2k]
theorem q18(h:zC x=zC m){f:Int}{S:List zu}(hS:jF m f S):jF x f S:=by
 have hn:∀q,ZR x f q=ZR m f q:=fun q=>by unfold ZR;rw[YY h]
 obtain⟨⟨g1,g2,g3,g4⟩,g5⟩:=hS;refine⟨⟨by rw[YY h];exact g1,g2,fun i hi h0 hs=> ?_,g4⟩,fun pc hp hs=> ?_⟩
 ·obtain⟨q,q1,q2,q3,q4⟩:=g3 i hi h0 hs;exact⟨q,q1,q2,q3,by rw[hn];exact q4⟩
 ·have:=g5 pc hp hs;rw[q0x h];exact this
theorem Jp(h:zC x=zC m):x.classes=m.classes:=show(zC x).classes=(zC m).classes by rw[h]
theorem q38(h:zC x=zC m):x.statics=m.statics:=show(zC x).statics=(zC m).statics by rw[h]
theorem q44(h:zC x=zC m):x.ints=m.ints:=show(zC x).ints=(zC m).ints by rw[h]
theorem q39(h:zC x=zC m):x.entries=m.entries:=show(zC x).entries=(zC m).entries by rw[h]
theorem q3g(h:zC x=zC m):x.stack=m.stack:=show(zC x).stack=(zC m).stack by rw[h]
theorem q46(h:zC x=zC m):x.heap=m.heap:=show(zC x).heap=(zC m).heap by rw[h]
theorem qdx(h:zC x=zC m):x.methods.map qa=m.methods.map qa:=show(zC x).methods=(zC m).methods by rw[h]
theorem qch(h:zC x=zC m){f:Nat}{g:ze}(hg:x.methods[f]? =some g):∃g0,m.methods[f]? =some g0∧qa g0=qa g:=by
 have h1:=congrArg (fun l=>l[f]?) (qdx h);simp only[List.getElem?_map,hg,Option.map_some]at h1;cases h2:m.methods[f]? with
 |none=>rw[h2]at h1;cases h1
 |some g0=>rw[h2]at h1;exact⟨g0,rfl,by injection h1 with h1;exact h1.symm⟩
theorem q80(m:za)(g:ze)(op a b:Int):zQ (zC m) (qa g) op a b=zQ m g op a b:=by
 unfold zQ;rw[q2k];rfl
theorem qg5(m:za)(c:Int)(ab:List Int)(k:Nat)(s:Int):vr (zC m) c ab k s=vr m c ab k s:=by
 unfold vr zC;simp only[List.getElem?_map];cases m.methods[s.toNat]? with
 |none=>rfl
 |some f=>
  obtain⟨args,locals,ret,code,depth,pot,phi⟩:=f;cases args with
  |nil=>rfl
  |cons t r=>
   cases ab[k]? with
   |none=>rfl
   |some q=>
    show(zG (zw m.classes) 3 c t.1 t.2&& (match Option.map qa m.methods[q.toNat]? with|none=>true|some g=>decide (r=g.args.drop 1)&& decide (ret=g.ret)))=(zG (zw m.classes) 3 c t.1 t.2&& (match m.methods[q.toNat]? with|none=>true|some g=>decide (r=g.args.drop 1)&& decide (ret=g.ret)))
    cases m.methods[q.toNat]? <;>rfl
theorem q6u(m:za)(c:Int)(ab:List Int):∀(k:Nat) (l:List Int),kJ (zC m) c ab k l=kJ m c ab k l
 |_,[]=>rfl
 |k,s::l=>by
  show(vr (zC m) c ab k s&& kJ (zC m) c ab (k+1) l)=_;rw[qg5,q6u m c ab (k+1) l];rfl
theorem q8f(m:za)(c:Int)(y:qv):qo (zC m) c y=qo m c y:=by
 unfold qo;rw[q6u];rfl
theorem qdy(h:zC x=zC m){g g0:ze}(hb:qa g0=qa g)(hg:qJ m g0=true)(hp:g.phi.length=g.code.length):qJ x g=true:=by
 have e:∀i:Int×Int×Int,zQ x g i.1 i.2.1 i.2.2=zQ m g0 i.1 i.2.1 i.2.2:=fun i=>by rw[←q80 x,←q80 m,h,hb]
 have ea:g.args=g0.args:=show(qa g).args=(qa g0).args by rw[hb]
 have el:g.locals=g0.locals:=show(qa g).locals=(qa g0).locals by rw[hb]
 have er:g.ret=g0.ret:=show(qa g).ret=(qa g0).ret by rw[hb]
 have ec:g.code=g0.code:=show(qa g).code=(qa g0).code by rw[hb]
 unfold qJ Jc at hg⊢
 simp only[Bool.and_eq_true,decide_eq_true_eq]at hg⊢
 obtain⟨a1,a2,a3,a4,a5,a6,a7⟩:=hg;rw[Jp h,ea,el,er,hp,ec];refine⟨a1,a2,a3,a4,rfl,a6,?_⟩;rw[List.all_eq_true]at a7⊢
 exact fun i hi=>by rw[e];exact a7 i hi
def q0f(g:ze):Prop:=g.phi.length=g.code.length∧(∀t ∈g.phi,0≤t∧t≤4096)∧0≤g.pot∧g.pot≤4096
theorem YP(h:zC x=zC m)(hm:zP m)(hp:∀g ∈x.methods,q0f g):zP x:=by
 have hmt:∀g ∈x.methods,∃g0 ∈m.methods,qa g0=qa g:=fun g hg=>by
  obtain⟨f,hf⟩:=List.mem_iff_getElem?.mp hg;obtain⟨g0,h1,h2⟩:=qch h hf;exact⟨g0,List.mem_of_getElem? h1,h2⟩
 have hf:=hm.fits;refine⟨⟨?_,?_,?_,?_,?_,?_,fun g hg=> ?_,?_,?_,?_,?_,?_,?_⟩,?_,fun i c hc=> ?_,fun g hg=> ?_⟩;all_goals(try rw[Jp h])
 all_goals(try rw[q38 h])
 all_goals(try rw[q44 h])
 all_goals(try rw[q39 h])
 all_goals(try rw[q3g h])
 all_goals(try rw[q46 h])
 ·exact hf.cl
 ·exact hf.ct
 ·exact hf.sl
 ·exact hf.st
 ·exact hf.il
 ·rw[Qz h];exact hf.ml
 ·obtain⟨g0,h0,hb⟩:=hmt g hg;have q:=hf.mt g0 h0;have ea:g.args=g0.args:=show(qa g).args=(qa g0).args by rw[hb]
  have el:g.locals=g0.locals:=show(qa g).locals=(qa g0).locals by rw[hb]
  have er:g.ret=g0.ret:=show(qa g).ret=(qa g0).ret by rw[hb]
  have ec:g.code=g0.code:=show(qa g).code=(qa g0).code by rw[hb]
  have ed:g.depth=g0.depth:=show(qa g).depth=(qa g0).depth by rw[hb]
  obtain⟨p1,p2,p3,p4⟩:=hp g hg;exact⟨by rw[ea];exact q.al,by rw[ea];exact q.at_,by rw[el];exact q.ll,by rw[el];exact q.lt,by rw[er];exact q.rt,by rw[ec];exact q.cl,by rw[ec];exact q.ct,by rw[ed];exact q.d0,by rw[ed];exact q.d1,p3,p4,by rw[p1,ec];exact q.cl,p2⟩
 ·exact hf.el
 ·exact hf.et
 ·exact hf.k0
 ·exact hf.k1
 ·exact hf.h0
 ·exact hf.h1
 ·exact hm.st
 ·rw[Jp h]at hc;rw[←q8f,h,q8f];exact hm.cls i c hc
 ·obtain⟨g0,h0,hb⟩:=hmt g hg;exact qdy h hb (hm.mth g0 h0) (hp g hg).1
end
structure ZV(m:za)(l:List (List zu))(x:za):Prop where
 alike:zC x=zC m
 phi:∀g ∈x.methods,q0f g
 pot:∀g ∈x.methods,g.pot=zM g 0
 holds:qZ x l= -1
 tight:∀(f:Nat) (g:ze),x.methods[f]? =some g→∀p:Nat,p<g.code.length→zM g (p:Int)≠0→(zv (l[f]?.getD []) (p:Int)).seen=true∧∃q:Nat,(q:Int) ∈qh x f (l[f]?.getD []) p∧q≠p∧zM g (p:Int)≤qs x g p+zM g (q:Int)
 ring:∀f:Nat,f<m.methods.length→jX (jm m) m.methods.length f f=true→(zm x (f:Int)).pot=0
theorem qfc{x z:za}(hc:z.classes=x.classes)(hp:∀t,(zm z t).pot=(zm x t).pot)(op a b:Int):jx z op a b=jx x op a b:=by
 have h1:qj z op a b=qj x op a b:=by unfold qj vN;rw[hc]
 have h2:∀L,jq z L=jq x L:=fun L=>by
  have:∀(L:List Int) (p:Int),L.foldl (jS z) p=L.foldl (jS x) p:=by
   intro L
   induction L with
   |nil=>intro p;rfl
   |cons t L ih=>
    intro p;rw[List.foldl_cons,List.foldl_cons,ih];congr 1;unfold jS;rw[hp]
  exact this L 0
 unfold jx;rw[h1,h2,hc]
theorem q81{x z:za}(hb:zC z=zC x)(hp:∀t,(zm z t).pot=(zm x t).pot)(f:Nat)(g:ze)(S:List zu):vQ z f g S=vQ x f g S:=by
 have h1:∀pc,qs z g pc=qs x g pc:=fun pc=>by
  unfold qs;cases g.code[pc]? with
  |none=>rfl
  |some i=>exact qfc (Jp hb) hp ..
 have h2:∀pc,qh z f S pc=qh x f S pc:=fun pc=>by unfold qh;rw[q0x hb]
 have h3:vg z f g S=vg x f g S:=funext fun pc=>by
  have:vG z g pc=vG x g pc:=funext fun q=>by unfold vG;rw[h1]
  unfold vg;rw[h2,this]
 unfold vQ;rw[h3]
def ve(g:ze)(p:Nat):ze:={g with phi:=g.phi.set p (zM g (p:Int) - 1)}
def kF(x:za)(f p:Nat):za:={x with methods:=x.methods.set f (ve (zm x (f:Int)) p)}
theorem q50{x:za}{f p:Nat}(hf:f<x.methods.length)(t:Int):zm (kF x f p) t=if t.toNat=f then ve (zm x (f:Int)) p else zm x t:=by
 unfold kF;generalize ve (zm x (f:Int)) p=g;unfold zm;dsimp only;rw[List.getElem?_set];by_cases h:f=t.toNat
 ·rw[if_pos h,if_pos hf,if_pos h.symm];rfl
 ·rw[if_neg h,if_neg (fun e=>h e.symm)]
theorem qaq{x:za}{f p:Nat}(hf:f<x.methods.length):zC (kF x f p)=zC x:=by
 unfold zC kF;dsimp only;congr 1;refine List.ext_getElem? fun i=> ?_;rw[List.getElem?_map,List.getElem?_map,List.getElem?_set];by_cases h:f=i
 ·subst h;rw[if_pos rfl,if_pos hf,List.getElem?_eq_getElem hf];show some (qa (ve (zm x (f:Int)) p))=some (qa x.methods[f]);have e:zm x (f:Int)=x.methods[f]:=by unfold zm;rw[Int.toNat_natCast,List.getElem?_eq_getElem hf];rfl
  rw[e];rfl
 ·rw[if_neg h]
theorem q2d{x:za}{l:List (List zu)}(h:qZ x l= -1):∀g,g<x.methods.length→vd x l g=false:=fun g hg=>by
 unfold qZ at h;cases hf:(List.range x.methods.length).find? (vd x l)with
 |none=>
  have:=List.find?_eq_none.mp hf g (List.mem_range.mpr hg);simpa using this
 |some k=>rw[hf]at h;dsimp only at h;omega
theorem Qk{x:za}{f:Nat}(hf:f<x.methods.length):x.methods[f]? =some (zm x (f:Int)):=by
 unfold zm;rw[Int.toNat_natCast,List.getElem?_eq_getElem hf];rfl
section
variable{m x:za}{l:List (List zu)}
theorem ZV.less(h:ZV m l x){f p:Nat}(hf:f<x.methods.length)(hp:p<(zm x (f:Int)).code.length)(h0:zM (zm x (f:Int)) (p:Int)≠0):qZ (kF x f p) l=(f:Int):=by
 have hb:=qaq (p:=p) hf;have hpt:∀t,(zm (kF x f p) t).pot=(zm x t).pot:=fun t=>by
  rw[q50 hf];split
  ·rename_i e;have:zm x t=zm x (f:Int):=by unfold zm;rw[e,Int.toNat_natCast]
   rw[this];rfl
  ·rfl
 have hl:(kF x f p).methods.length=x.methods.length:=by unfold kF;rw[List.length_set]
 have hall:=q2d h.holds;refine q0e (by rw[hl];exact hf) (fun g hg=> ?_) ?_
 ·have:=hall g (by omega);unfold vd at this⊢
  rw[q81 hb hpt,q50 hf,Int.toNat_natCast,if_neg (by omega)];exact this
 ·obtain⟨hs,q,hq,hne,hle⟩:=h.tight f _ (Qk hf) p hp h0;unfold vd;rw[q81 hb hpt,q50 hf,Int.toNat_natCast,if_pos rfl];rw[q64 (x:=ve (zm x (f:Int)) p) (pc:=p) hp]
  ·rfl
  ·unfold vg;rw[hs,Bool.not_true,Bool.false_or,Bool.eq_false_iff];intro ha;have:=List.all_eq_true.mp ha _ hq;unfold vG at this;rw[decide_eq_true_eq]at this;have hpl:p<(zm x (f:Int)).phi.length:=by rw[(h.phi _ (List.mem_of_getElem? (Qk hf))).1];exact hp
   have e1:zM (ve (zm x (f:Int)) p) (q:Int)=zM (zm x (f:Int)) (q:Int):=by
    unfold zM ve;dsimp only;rw[Int.toNat_natCast,List.getElem?_set,if_neg (fun e=>hne e.symm)]
   have e2:zM (ve (zm x (f:Int)) p) (p:Int)=zM (zm x (f:Int)) (p:Int) - 1:=by
    unfold ve;generalize zM (zm x (f:Int)) (p:Int) - 1=v;unfold zM;dsimp only;rw[Int.toNat_natCast,List.getElem?_set,if_pos rfl,if_pos hpl];rfl
   have e3:qs x (ve (zm x (f:Int)) p) p=qs x (zm x (f:Int)) p:=rfl;rw[e1,e2,e3]at this;omega
def Yv(m:za)(f:Nat)(S:List zu)(n:Nat):List (List Int):=(List.range n).map fun pc:Nat=>if(zv S (pc:Int)).seen=true then qh m f S pc else []
theorem q93{m:za}{f n pc:Nat}{S:List zu}(h:pc<n):(Yv m f S n)[pc]? =some (if(zv S (pc:Int)).seen=true then qh m f S pc else []):=by
 unfold Yv;rw[List.getElem?_map,List.getElem?_range h];rfl
theorem ZV.way(h:ZV m l x){f i j:Nat}(hf:f<x.methods.length)(hc:∀pc,0≤qs x (zm x (f:Int)) pc){n:Nat}(hn:n=(zm x (f:Int)).code.length)(hi:i<n)(hw:Way (Yv m f (l[f]?.getD []) n) n i j):
  zM (zm x (f:Int)) (j:Int)+qs x (zm x (f:Int)) i≤zM (zm x (f:Int)) (i:Int):=by
 have hok:vQ x f (zm x (f:Int)) (l[f]?.getD [])=true:=by
  have:=q2d h.holds f hf;unfold vd at this;simpa using this
 have hedge:∀a b:Nat,a<n→vR (Yv m f (l[f]?.getD []) n) a b→zM (zm x (f:Int)) (b:Int)+qs x (zm x (f:Int)) a≤zM (zm x (f:Int)) (a:Int):=fun a b ha he=>by
  unfold vR at he;rw[q93 ha]at he;by_cases hs:(zv (l[f]?.getD []) (a:Int)).seen=true
  ·have he:(b:Int) ∈qh m f (l[f]?.getD []) a:=by simpa[hs]using he
   unfold vQ at hok;rw[Bool.and_eq_true]at hok;have h1:=Jz.mp hok.2 a (by omega);unfold vg at h1;rw[hs,Bool.not_true,Bool.false_or]at h1;have he2:(b:Int) ∈qh x f (l[f]?.getD []) a:=by
    unfold qh at he⊢
    rw[q0x h.alike];exact he
   have:=List.all_eq_true.mp h1 _ he2;unfold vG at this;rw[decide_eq_true_eq]at this;omega
  ·simp[hs]at he
 induction hw with
 |one e=>exact hedge _ _ hi e
 | @snoc p j _ hp e ih=>
  have h1:=hedge p j hp e;have h2:=hc p;omega
theorem ZV.cycle(h:ZV m l x){f i:Nat}(hf:f<x.methods.length)(hc:∀pc,0≤qs x (zm x (f:Int)) pc){n:Nat}(hn:n=(zm x (f:Int)).code.length)(hi:i<n)(hw:jX (Yv m f (l[f]?.getD []) n) n i i=true):¬qs x (zm x (f:Int)) i>0:=by
 have:=h.way hf hc hn hi (Vk.mp hw);omega
end
def Jh(x:za)(f:Nat)(g:ze):za:={x with methods:=x.methods.set f g}
structure q2q(m:za)(l:List (List zu))(x:za):Prop where
 alike:zC x=zC m
 len:∀g ∈x.methods,g.phi.length=g.code.length
 low:∀g ∈x.methods,(∀t ∈g.phi,0≤t)∧0≤g.pot
 want:∀(f:Nat) (g:ze),x.methods[f]? =some g→∀p:Nat,p<g.code.length→zM g (p:Int)≠0→(zv (l[f]?.getD []) (p:Int)).seen=true∧∃q:Nat,(q:Int) ∈qh m f (l[f]?.getD []) p∧(q≠p∨0<qs x g p)∧zM g (p:Int)≤qs x g p+zM g (q:Int)
 pot:∀g ∈x.methods,g.pot≤zM g 0
 ring:∀f:Nat,f<m.methods.length→jX (jm m) m.methods.length f f=true→(zm x (f:Int)).pot=0
theorem Jq{m x:za}(h:zC x=zC m)(f:Nat)(S:List zu)(pc:Nat):qh x f S pc=qh m f S pc:=by
 unfold qh;rw[q0x h]
theorem q1z{x:za}{f:Nat}{g:ze}(hf:f<x.methods.length)(t:Int):zm (Jh x f g) t=if t.toNat=f then g else zm x t:=by
 unfold Jh zm;dsimp only;rw[List.getElem?_set];by_cases h:f=t.toNat
 ·rw[if_pos h,if_pos hf,if_pos h.symm];rfl
 ·rw[if_neg h,if_neg (fun e=>h e.symm)]
theorem q4e{x:za}{f:Nat}{g g':ze}(hf:x.methods[f]? =some g)(hb:qa g'=qa g):zC (Jh x f g')=zC x:=by
 unfold zC Jh;dsimp only;congr 1;refine List.ext_getElem? fun i=> ?_;rw[List.getElem?_map,List.getElem?_map,List.getElem?_set];have hl:=(List.getElem?_eq_some_iff.mp hf).1;by_cases h:f=i
 ·subst h;rw[if_pos rfl,if_pos hl,hf];show some (qa g')=some (qa g);rw[hb]
 ·rw[if_neg h]
theorem qfd{x z:za}(hc:z.classes=x.classes)(hp:∀t,(zm x t).pot≤(zm z t).pot)(op a b:Int):jx x op a b≤jx z op a b:=by
 have h1:qj z op a b=qj x op a b:=by unfold qj vN;rw[hc]
 have h2:∀L,jq x L≤jq z L:=fun L=>by
  have:∀(L:List Int) (p q:Int),p≤q→L.foldl (jS x) p≤L.foldl (jS z) q:=by
   intro L
   induction L with
   |nil=>intro p q h;exact h
   |cons t L ih=>
    intro p q h;rw[List.foldl_cons,List.foldl_cons];refine ih _ _ ?_;have:=hp t;unfold jS;split<;>split<;>omega
  exact this L 0 0 (Int.le_refl _)
 unfold jx;rw[h1,hc];split
 ·exact Int.le_refl _
 ·split
  ·exact Int.le_refl _
  ·exact h2 _
theorem qfv{x z:za}{g g':ze}(hc:z.classes=x.classes)(hp:∀t,(zm x t).pot≤(zm z t).pot)(hg:g'.code=g.code)(pc:Nat):qs x g pc≤qs z g' pc:=by
 unfold qs;rw[hg];cases g.code[pc]? with
 |none=>exact Int.le_refl _
 |some i=>exact qfd hc hp ..
theorem qo9{g:ze}(h:∀t ∈g.phi,0≤t)(q:Int):0≤zM g q:=by
 unfold zM;cases hq:g.phi[q.toNat]? with
 |none=>exact Int.le_refl _
 |some v=>exact h v (List.mem_of_getElem? hq)
section
variable{m x:za}{l:List (List zu)}
theorem q5f{f:Nat}{g g' y:ze}(hf:x.methods[f]? =some g)(hy:y ∈(Jh x f g').methods):y=g'∨y ∈x.methods:=by
 rcases List.mem_or_eq_of_mem_set hy with q|q
 ·exact .inr q
 ·exact .inl q
theorem q2q.done(h:q2q m l x)(hp:∀(f:Nat) (g:ze),x.methods[f]? =some g→∀p:Nat,p<g.code.length→(zv (l[f]?.getD []) (p:Int)).seen=true→∀q ∈qh m f (l[f]?.getD []) p,qs x g p+zM g q≤zM g (p:Int))(h0:∀g ∈x.methods,zM g 0≤g.pot)
  (ht:∀g ∈x.methods,(∀t ∈g.phi,t≤4096)) (hpt:∀g ∈x.methods,g.pot≤4096):ZV m l x:=by
 refine⟨h.alike,fun g hg=>⟨h.len g hg,fun t ht'=>⟨(h.low g hg).1 t ht',ht g hg t ht'⟩,(h.low g hg).2,hpt g hg⟩,fun g hg=>Int.le_antisymm (h.pot g hg) (h0 g hg),q1v fun f hf=> ?_,fun f g hf p hpc hne=> ?_,h.ring⟩
 ·have hx:=Qk hf;unfold vd;rw[q5s (h0 _ (List.mem_of_getElem? hx)) (fun pc hpc=> ?_)]
  ·rfl
  ·unfold vg;cases hs:(zv (l[f]?.getD []) (pc:Int)).seen
   ·rfl
   ·rw[Bool.not_true,Bool.false_or,List.all_eq_true];intro q hq;rw[Jq h.alike]at hq;exact decide_eq_true (hp f _ hx pc hpc hs q hq)
 ·obtain⟨a1,q,a2,a3,a4⟩:=h.want f g hf p hpc hne;refine⟨a1,q,by rw[Jq h.alike];exact a2,?_,a4⟩;rcases a3 with z|z
  ·exact z
  ·intro e;subst e;have:=hp f g hf q hpc a1 _ a2;omega
end
def q2z(g:ze):ze:={g with pot:=0,phi:=List.replicate g.code.length 0}
def q30(m:za):za:={m with methods:=m.methods.map q2z}
theorem qac(g:ze)(q:Int):zM (q2z g) q=0:=by
 unfold zM q2z;dsimp only;rw[List.getElem?_replicate];split<;>rfl
theorem q2q.start(m:za)(l:List (List zu)):q2q m l (q30 m):=by
 have hmem:∀g ∈(q30 m).methods,∃g0 ∈m.methods,g=q2z g0:=fun g hg=>by
  obtain⟨g0,h0,rfl⟩:=List.mem_map.mp hg;exact⟨g0,h0,rfl⟩
 refine⟨?_,fun g hg=> ?_,fun g hg=> ?_,fun f g hf p hp h0=> ?_,fun g hg=> ?_,fun f hf _=> ?_⟩
 ·unfold zC q30;dsimp only;congr 1;rw[List.map_map];rfl
 ·obtain⟨g0,_,rfl⟩:=hmem g hg;exact List.length_replicate ..
 ·obtain⟨g0,_,rfl⟩:=hmem g hg;exact⟨fun t ht=>by rw[(List.mem_replicate.mp ht).2];exact Int.le_refl _,Int.le_refl _⟩
 ·obtain⟨g0,_,rfl⟩:=hmem g (List.mem_of_getElem? hf);exact absurd (qac g0 _) h0
 ·obtain⟨g0,_,rfl⟩:=hmem g hg;rw[qac];exact Int.le_refl _
 ·unfold zm q30;dsimp only;rw[Int.toNat_natCast,List.getElem?_map,List.getElem?_eq_getElem hf];rfl
theorem YT{sup:List Int}{k n:Int}(h:zG sup k n k n=true):q0i sup k n:=fun e=>by
 subst e;rw[vM]at h;rcases h with⟨h,_⟩|⟨_,_,h⟩|⟨h,_,_⟩
 ·omega
 ·have:=Qg h;omega
 ·omega
theorem zR.trans'{sup:List Int}{a b c:List (Int×Int)}(h:zR sup a b)(g:zR sup b c):zR sup a c:=
 ⟨h.1.trans g.1,fun i h1 h2=>q8p (h.2 i h1 (by rw[←h.1];exact h1)) (g.2 i (by rw[←h.1];exact h1) h2)⟩
theorem q2i(sup:List Int):zR sup [] []:=⟨rfl,fun i h=>by simp at h⟩
def kE(t:Int×Int):Prop:=t.1=4→t.2=0
def vE(l:List (Int×Int)):Prop:=∀t ∈l,kE t
theorem qi0{sup:List Int}{s t:Int×Int}(hs:kE s)(ht:kE t):kE (qX sup s.1 s.2 t.1 t.2):=by
 unfold qX;split
 ·exact ht
 ·split
  ·exact hs
  ·split
   ·unfold kE;intro e;have h3:∀(a b:List Int),(jJ a b).1=4→(jJ a b).2=0:=by
     intro a b
     induction a with
     |nil=>intro _;rfl
     |cons x r ih=>
      unfold jJ;split
      ·intro e;exact absurd e (show ¬(3:Int)=4 by decide)
      ·exact ih
    exact h3 _ _ e
   ·intro e;cases e
structure Qo(sup:List Int)(s:zu)(st J:List (Int×Int))(grown:Bool):Prop where
 up:zR sup st J
 old:s.seen=true→zR sup s.stack J
 least:∀U,(s.seen=true→zR sup s.stack U)→zR sup st U→zR sup J U
 same:grown=false→s.seen=true∧J=s.stack
 more:grown=true→s.seen=true→¬zR sup J s.stack
 null:(s.seen=true→vE s.stack)→vE st→vE J
def q6h(sup:List Int)(s:zu)(st:List (Int×Int)):Prop:=s.seen=true∧∀U,zR sup s.stack U→zR sup st U→False
theorem qj5{sup:List Int}{s:zu}{st:List (Int×Int)}(h:s.seen=false)(hst:zR sup st st):Qo sup s st st true:=
 ⟨hst,(fun e=>by rw[h]at e;cases e),fun U _ g=>g,(fun e=>by cases e),(fun _ e=>by rw[h]at e;cases e),fun _ q=>q⟩
theorem qn6{sup:List Int}{s:zu}{st:List (Int×Int)}(h:s.seen=true)(hl:¬st.length=s.stack.length):q6h sup s st:=⟨h,fun U g1 g2=>hl (g2.1.trans g1.1.symm)⟩
def JR(n:Nat)(t:Int×Int):Nat:=if t.1=4 then max n 1 else if t.1=3 then t.2.toNat else 0
theorem qo0{sup:List Int}{a:Int×Int}(h:zG sup a.1 a.2 a.1 a.2=true):JR sup.length a≤max sup.length 1:=by
 unfold JR;by_cases h4:a.1=4
 ·rw[if_pos h4];exact zn _
 ·rw[if_neg h4];by_cases h3:a.1=3
  ·rw[if_pos h3];have:=YT h h3;omega
  ·rw[if_neg h3];exact Nat.zero_le _
theorem qgy{sup:List Int}{a b:Int×Int}(h:zG sup a.1 a.2 b.1 b.2=true)(hb:zG sup b.1 b.2 b.1 b.2=true):JR sup.length b≤JR sup.length a∧(¬zG sup b.1 b.2 a.1 a.2=true→JR sup.length b<JR sup.length a):=by
 have ht:=YT hb;obtain⟨a1,a2⟩:=a;obtain⟨b1,b2⟩:=b;dsimp only at*
 unfold q0i at ht;unfold JR;dsimp only;have h':=h;rw[vM]at h';rcases h' with⟨rfl,g⟩|⟨rfl,rfl,g⟩|⟨g,rfl,rfl⟩
 ·rw[if_pos rfl];rcases g with rfl|rfl|rfl
  ·refine⟨?_,fun _=> ?_⟩
   ·rw[if_neg (by decide),if_neg (by decide)];omega
   ·rw[if_neg (by decide),if_neg (by decide)];omega
  ·have:=ht rfl;rw[if_neg (by decide),if_pos rfl];omega
  ·refine⟨by rw[if_pos rfl];exact zn _,fun q=>absurd ((vM ..).mpr (.inl ⟨rfl,.inr (.inr rfl)⟩)) q⟩
 ·have hr:=Qg g;rw[if_neg (by decide),if_pos rfl,if_neg (by decide),if_pos rfl];refine⟨by omega,fun q=> ?_⟩;have hne:¬b2=a2:=fun e=>q (by subst e;exact hb);omega
 ·exact⟨zn _,fun q=>absurd h q⟩
def QL(n:Nat):List (Int×Int)→Nat
 | []=>0
 |t::ts=>JR n t+QL n ts
theorem q55{sup:List Int}{a b:Int×Int}{s t:List (Int×Int)}:zR sup (a::s) (b::t)↔zG sup a.1 a.2 b.1 b.2=true∧zR sup s t:=by
 constructor
 ·intro h;refine⟨h.2 0 (Nat.succ_pos _) (Nat.succ_pos _),by simpa using h.1,fun i h1 h2=>h.2 (i+1) (Nat.succ_lt_succ h1) (Nat.succ_lt_succ h2)⟩
 ·rintro⟨h0,h⟩;refine⟨by rw[List.length_cons,List.length_cons,h.1],fun i h1 h2=> ?_⟩
  match i,h1,h2 with
  |0,_,_=>exact h0
  |i+1,h1,h2=>exact h.2 i (by simpa using h1) (by simpa using h2)
theorem qbn{sup:List Int}:∀{s:List (Int×Int)},zR sup s s→QL sup.length s≤s.length*max sup.length 1
 | [],_=>by simp[QL]
 |t::ts,h=>by
  rw[q55]at h;have h1:=qo0 h.1;have h2:=qbn h.2;unfold QL;rw[List.length_cons,Nat.succ_mul];omega
theorem q8w{sup:List Int}:∀{s J:List (Int×Int)},zR sup s J→zR sup J J→QL sup.length J≤QL sup.length s∧(¬zR sup J s→QL sup.length J<QL sup.length s)
 | [],[],_,_=>⟨zn _,fun h=>absurd (q2i sup) h⟩
 | [],_::_,h,_=>by have:=h.1;simp at this
 |_::_,[],h,_=>by have:=h.1;simp at this
 |a::s,b::t,h,g=>by
  rw[q55]at h g;obtain⟨a1,a2⟩:=qgy h.1 g.1;obtain⟨b1,b2⟩:=q8w h.2 g.2;unfold QL;refine⟨by omega,fun q=> ?_⟩;rw[q55]at q;by_cases e:zG sup b.1 b.2 a.1 a.2=true
  ·have:=b2 (fun f=>q ⟨e,f⟩);omega
  ·have:=a2 e;omega
def jP(n:Nat)(s:zu):Nat:=if s.seen then QL n s.stack+max n 1*(8 - s.stack.length)else 8*max n 1+1
def qQ(n:Nat):List zu→Nat
 | []=>0
 |s::S=>jP n s+qQ n S
theorem qa7{n:Nat}{x:zu}:∀{S:List zu} {i:Nat} (h:i<S.length),jP n x<jP n S[i]→qQ n (S.set i x)<qQ n S
 | [],i,h,_=>by simp at h
 |s::S,0,h,g=>by
  show jP n x+qQ n S<jP n s+qQ n S;have g':jP n x<jP n s:=g;omega
 |s::S,i+1,h,g=>by
  show jP n s+qQ n (S.set i x)<jP n s+qQ n S;have:=qa7 (S:=S) (i:=i) (by simpa using h) g;omega
theorem qn5{sup:List Int}{s:zu}{st J:List (Int×Int)}(h:Qo sup s st J true)(hJ:J.length≤8):jP sup.length ⟨true,J⟩<jP sup.length s:=by
 have hself:zR sup J J:=h.least J h.old h.up;unfold jP;rw[if_pos rfl];dsimp only;by_cases g:s.seen=true
 ·rw[if_pos g];have h1:=(q8w (h.old g) hself).2 (h.more rfl g);have h2:=(h.old g).1;rw[h2];omega
 ·rw[if_neg g];have h1:=qbn hself;have h2:J.length*max sup.length 1+max sup.length 1*(8 - J.length)=8*max sup.length 1:=by
   rw[Nat.mul_comm J.length,←Nat.mul_add,Nat.mul_comm 8];congr 1;omega
  omega
theorem qcx{m:za}{S:List zu}{af:List (Int×Int)}{n:Int}:onB m S af n=true↔(zv S n).seen=true∧zR (zw m.classes) af (zv S n).stack:=by
 unfold onB;rw[Bool.and_eq_true,q3s]
theorem q4u{m:za}{f pc:Int}{S:List zu}:ZQ m f S pc=true↔((zv S pc).seen=true→(zK m f pc (zv S pc).stack).err=0∧∀n ∈(zK m f pc (zv S pc).stack).next,(zv S n).seen=true∧zR (zw m.classes) (zK m f pc (zv S pc).stack).after (zv S n).stack):=by
 unfold ZQ goB;cases h:(zv S pc).seen
 ·simp
 ·rw[Bool.not_true,Bool.false_or,Bool.and_eq_true,decide_eq_true_eq,List.all_eq_true];constructor
  ·intro g _;exact⟨g.1,fun n hn=>qcx.mp (g.2 n hn)⟩
  ·intro g;obtain⟨g1,g2⟩:=g rfl;exact⟨g1,fun n hn=>qcx.mpr (g2 n hn)⟩
theorem q1e{m:za}{f:Int}{R:List zu}:vP m f R=true↔(0<R.length∧R.length=(zm m f).code.length∧(zv R 0).seen=true∧(zv R 0).stack=[])∧∀pc:Nat,pc<R.length→ZQ m f R (pc:Int)=true:=by
 unfold vP qdk;rw[Bool.and_eq_true,Jz];simp only[Bool.and_eq_true,decide_eq_true_eq,List.length_eq_zero_iff]
structure kg(m:za)(f:Int)(S:List zu):Prop where
 len:S.length=(zm m f).code.length
 first:(zv S 0).seen=true∧(zv S 0).stack=[]
 self:∀s ∈S,zR (zw m.classes) s.stack s.stack
 small:∀s ∈S,s.stack.length≤8
 low:∀R,vP m f R=true→∀i:Nat,i<S.length→(zv S i).seen=true→(zv R i).seen=true∧zR (zw m.classes) (zv S i).stack (zv R i).stack
theorem Vl{S:List zu}{i:Nat}(hi:i<S.length):zv S (i:Int) ∈S:=by
 rw[QC hi];exact List.getElem_mem hi
theorem kg.right{m:za}{f:Int}{S R:List zu}(hm:zP m)(h:kg m f S)(hR:vP m f R=true){pc:Nat}(hp:pc<S.length)(hs:(zv S pc).seen=true):
  (zK m f pc (zv S pc).stack).err=0∧∀n ∈(zK m f pc (zv S pc).stack).next,(zv R n).seen=true∧zR (zw m.classes) (zK m f pc (zv S pc).stack).after (zv R n).stack:=by
 obtain⟨h1,h2⟩:=h.low R hR pc hp hs;obtain⟨⟨_,hl,_⟩,hall⟩:=q1e.mp hR;have hpR:pc<R.length:=by rw[hl,←h.len];exact hp
 obtain⟨g1,g2⟩:=q4u.mp (hall pc hpR) h1;obtain⟨e1,e2,e3⟩:=q7u hm h2 g1;exact⟨e1,fun n hn=>by
  rw[e2]at hn;obtain⟨a1,a2⟩:=g2 n hn;exact⟨a1,e3.trans' a2⟩⟩
theorem kg.none_err{m:za}{f:Int}{S:List zu}(hm:zP m)(h:kg m f S){pc:Nat}(hp:pc<S.length)(hs:(zv S pc).seen=true)(he:¬(zK m f pc (zv S pc).stack).err=0):∀R,vP m f R=false:=fun R=>by
 rw[Bool.eq_false_iff];intro hR;exact he (h.right hm hR hp hs).1
theorem kg.put{m:za}{f:Int}{S:List zu}(hm:zP m)(h:kg m f S){pc q:Nat}{J:List (Int×Int)}{gr:Bool}(hp:pc<S.length)(hq:q<S.length)(hs:(zv S pc).seen=true)(hn:(q:Int) ∈(zK m f pc (zv S pc).stack).next)
  (hc:Qo (zw m.classes) (zv S q) (zK m f pc (zv S pc).stack).after J gr) (h8:(zK m f pc (zv S pc).stack).after.length≤8):kg m f (S.set q ⟨true,J⟩):=by
 have hset:∀i:Nat,zv (S.set q ⟨true,J⟩) (i:Int)=if i=q then⟨true,J⟩else zv S (i:Int):=fun i=>Ym hq
 have hJ:zR (zw m.classes) J J:=hc.least J hc.old hc.up;refine⟨by rw[List.length_set];exact h.len,?_,fun s hs'=> ?_,fun s hs'=> ?_,fun R hR i hi hsi=> ?_⟩
 ·have h0:=hset 0;by_cases e:0=q
  ·rw[if_pos e]at h0;have hz:=hc.old (by rw[←e];exact h.first.1);rw[←e]at hz;have hl:=hz.1;have hf:(zv S ((0:Nat):Int)).stack=[]:=h.first.2;rw[hf]at hl;have hJ0:J=[]:=List.eq_nil_of_length_eq_zero hl.symm;have e2:zv (S.set q ⟨true,J⟩) 0=⟨true,J⟩:=h0;rw[e2];exact⟨rfl,hJ0⟩
  ·rw[if_neg e]at h0;have e2:zv (S.set q ⟨true,J⟩) 0=zv S 0:=h0;rw[e2];exact h.first
 ·rcases List.mem_or_eq_of_mem_set hs' with g|g
  ·exact h.self s g
  ·rw[g];exact hJ
 ·rcases List.mem_or_eq_of_mem_set hs' with g|g
  ·exact h.small s g
  ·rw[g];show J.length≤8;rw[←hc.up.1];exact h8
 ·rw[List.length_set]at hi;rw[hset]at hsi⊢
  by_cases e:i=q
  ·rw[if_pos e];subst e;obtain⟨a1,a2⟩:=(h.right hm hR hp hs).2 _ hn;exact⟨a1,hc.least _ (fun g=>(h.low R hR i hi g).2) a2⟩
  ·rw[if_neg e]at hsi⊢
   exact h.low R hR i hi hsi
theorem kg.done{m:za}{f:Int}{S:List zu}(h:kg m f S)(h0:0<S.length)(hd:∀pc:Nat,pc<S.length→ZQ m f S (pc:Int)=true):vP m f S=true:=q1e.mpr ⟨⟨h0,h.len,h.first⟩,hd⟩
theorem qb1{m:za}{S:List zu}{q:Nat}{st J:List (Int×Int)}(hq:q<S.length)(hc:Qo (zw m.classes) (zv S q) st J true)(h8:st.length≤8):qQ (zw m.classes).length (S.set q ⟨true,J⟩)<qQ (zw m.classes).length S:=
 qa7 hq (by
  rw[←QC hq];exact qn5 hc (by rw[←hc.up.1];exact h8))
def q0q(sup:List Int)(S R:List zu):Bool:=decide (S.length=R.length)&& (List.range S.length).all fun i=> !(zv S (i:Int)).seen||((zv R (i:Int)).seen&& q2r sup (zv S (i:Int)).stack (zv R (i:Int)).stack)
theorem qlp{sup:List Int}{S R:List zu}:q0q sup S R=true↔S.length=R.length∧∀i:Nat,i<S.length→(zv S i).seen=true→(zv R i).seen=true∧zR sup (zv S i).stack (zv R i).stack:=by
 unfold q0q;rw[Bool.and_eq_true,decide_eq_true_eq,Jz];constructor
 ·rintro⟨h1,h2⟩;refine⟨h1,fun i hi hs=> ?_⟩;have:=h2 i hi;rw[hs,Bool.not_true,Bool.false_or,Bool.and_eq_true,q3s]at this;exact this
 ·rintro⟨h1,h2⟩;refine⟨h1,fun i hi=> ?_⟩;cases hs:(zv S (i:Int)).seen
  ·rfl
  ·obtain⟨g1,g2⟩:=h2 i hi hs;rw[g1,q3s.mpr g2];rfl
theorem kg.over{m:za}{f:Int}{S R:List zu}(h:kg m f S)(hR:vP m f R=true):q0q (zw m.classes) S R=true:=by
 rw[qlp];refine⟨?_,fun i hi hs=>h.low R hR i hi hs⟩;rw[h.len,(q1e.mp hR).1.2.1]
def overB(sup:List Int)(a b:List (List zu)):Bool:=decide (a.length=b.length)&& (List.range a.length).all fun f=>q0q sup (a[f]?.getD []) (b[f]?.getD [])
theorem qgs{m:za}{a:List (List zu)}:JL m a=true↔a.length=m.methods.length∧∀f,f<a.length→vP m (f:Int) (a[f]?.getD [])=true:=by
 unfold JL;rw[Bool.and_eq_true,decide_eq_true_eq,Jz]
structure qdl(m:za)(a:List (List zu)):Prop where
 right:JL m a=true
 least:∀b,JL m b=true→overB (zw m.classes) a b=true
 small:∀S ∈a,∀s ∈S,s.stack.length≤8
theorem qdl.self{m:za}{a:List (List zu)}(h:qdl m a):overB (zw m.classes) a a=true:=h.least a h.right
structure q2y(m:za)(f:Int)(S:List zu):Prop where
 right:vP m f S=true
 least:∀R,vP m f R=true→q0q (zw m.classes) S R=true
 small:∀s ∈S,s.stack.length≤8
 flat:∀s ∈S,vE s.stack∧(s.seen=false→s.stack=[])
theorem qf3{m:za}{f:Nat}(hf:f<m.methods.length)(h:∀R,vP m (f:Int) R=false):∀a,JL m a=false:=fun a=>by
 rw[Bool.eq_false_iff];intro ha;obtain⟨h1,h2⟩:=qgs.mp ha;have:=h2 f (by omega);rw[h]at this;cases this
theorem qlz{m:za}{f:Int}{n:Nat}(hn:(zm m f).code.length=n+1):kg m f (⟨true,[]⟩::List.replicate n (⟨false,[]⟩:zu)):=by
 refine⟨by rw[hn];simp,⟨rfl,rfl⟩,fun s hs=> ?_,fun s hs=> ?_,fun R hR i hi hs=> ?_⟩
 ·rcases List.mem_cons.mp hs with rfl|hs
  ·exact q2i _
  ·rw[(List.mem_replicate.mp hs).2];exact q2i _
 ·rcases List.mem_cons.mp hs with rfl|hs
  ·exact Nat.zero_le _
  ·rw[(List.mem_replicate.mp hs).2];exact Nat.zero_le _
 ·match i,hi,hs with
  |0,_,_=>
   obtain⟨⟨_,_,h1,h2⟩,_⟩:=q1e.mp hR;refine⟨h1,?_⟩;have e:(zv R ((0:Nat):Int)).stack=[]:=h2;rw[e];exact q2i _
  |i+1,hi,hs=>
   rw[QC hi]at hs;have:(List.replicate n (⟨false,[]⟩:zu))[i]'(by simpa using hi)=⟨false,[]⟩:=List.getElem_replicate ..;have hs:((List.replicate n (⟨false,[]⟩:zu))[i]'(by simpa using hi)).seen=true:=hs;rw[this]at hs;cases hs
theorem kz{c:Prop}[Decidable c]{A B:List (Int×Int)}(hA:c→vE A)(hB:¬c→vE B):vE (if c then A else B):=by
 by_cases g:c
 ·rw[if_pos g];exact hA g
 ·rw[if_neg g];exact hB g
theorem Zb{t:Int×Int}(h:kE t):vE [t]:=fun u hu=>by rw[List.mem_singleton.mp hu];exact h
theorem q04{t:Int×Int}{n:Nat}(h:jL t.1 t.2 n=true):kE t:=fun e=>by
 unfold jL at h;rw[decide_eq_true_eq]at h;omega
theorem qbm{m:za}{y:ze}(hy:q6r m y):vE (jd y):=by
 unfold jd;refine kz (fun _ t ht=>absurd ht (by simp)) (fun h5=>Zb ?_);rcases hy.rt with h|h
 ·rw[h]at h5;exact absurd rfl h5
 ·exact q04 h
theorem qmh{m:za}{x:ze}{f:Nat}{op a b:Int}(hm:zP m)(hg:m.methods[f]? =some x)(hi:jb op a b=true)(hn:zQ m x op a b=true):vE (zB m x op a b):=by
 obtain⟨o0,o1,a0,a1,b0,b1⟩:=Za hi;have hx:=hm.method (List.mem_of_getElem? hg);have s1:kE (1,0):=fun e=>rfl;have s2:kE (2,0):=fun e=>rfl;have s4:kE (4,0):=fun e=>rfl;have s3:kE (3,a):=fun e=>by cases e
 unfold zB;refine kz (fun _=>Zb s1) (fun _=> ?_);refine kz (fun _=>Zb s4) (fun _=> ?_);refine kz (fun h=>Zb ?_) (fun _=> ?_)
 ·have hl:=q4z (.inl h) hn;unfold qB;rw[if_pos a0];have hmem:=QX (l:=x.args++x.locals) a0 (by rw[List.length_append];omega);rcases List.mem_append.mp hmem with q|q
  ·exact q04 (hx.at_ _ q)
  ·exact q04 (hx.lt _ q)
 refine kz (fun _=>Zb s1) (fun _=> ?_);refine kz (fun _=>Zb s1) (fun _=> ?_);refine kz (fun h=>Zb s3) (fun _=> ?_);refine kz (fun _=>Zb s2) (fun _=> ?_);refine kz (fun _=>Zb s1) (fun _=> ?_);refine kz (fun _=>Zb s1) (fun _=> ?_);refine kz (fun h=>Zb (q04 (q3p hm (QX b0 (Yd (.inl h) hn).2)))) (fun _=> ?_);refine kz (fun h=>Zb (q04 (hm.st _ (QX a0 (JZ (.inl h) hn))))) (fun _=> ?_);refine kz (fun h=>Zb s3) (fun _=> ?_);refine kz (fun h=> ?_) (fun _=> ?_)
 ·subst h;have h1:=Yg hn;have h2:a.toNat<m.methods.length:=by omega
  refine qbm (hm.method ?_);unfold zm;rw[List.getElem?_eq_getElem h2];exact List.getElem_mem h2
 refine kz (fun h=> ?_) (fun _=> ?_)
 ·subst h;obtain⟨_,k,y,hk,hy,_⟩:=Yf hm a0 b0 hn;refine qbm (hm.method ?_);unfold zm kt;rw[hk,Option.getD_some,Int.toNat_natCast,hy];exact List.mem_of_getElem? hy
 refine kz (fun _=>Zb s1) (fun _=> ?_);exact fun t ht=>absurd ht (by simp)
theorem qk2{m:za}{f pc:Int}{st:List (Int×Int)}(hm:zP m)(h:vE st)(e:(zK m f pc st).err=0):vE (zK m f pc st).after:=by
 unfold zK at e⊢
 by_cases g:0≤f∧f<m.methods.length∧0≤pc∧pc<(zm m f).code.length
 ·rw[if_pos g]at e;rw[if_pos g];cases hi:(zm m f).code[pc.toNat]? with
  |none=>rw[hi]at e;exact absurd e (show ¬(1:Int)=0 by decide)
  |some i=>
   rw[hi]at e;have hf:f.toNat<m.methods.length:=by omega
   have hg:m.methods[f.toNat]? =some (zm m f):=by unfold zm;rw[List.getElem?_eq_getElem hf];rfl
   have hx:=hm.method (List.mem_of_getElem? hg);have him:=List.mem_of_getElem? hi;have hgv:=qmh hm hg (hx.fits.ct _ him) (hx.co _ him);have e:(qr m (zm m f) pc i.1 i.2.1 i.2.2 st).err=0:=e;show vE (qr m (zm m f) pc i.1 i.2.1 i.2.2 st).after;have e4:¬(qL 4).err=0:=by unfold qL;decide
   unfold qr at e⊢
   split at e
   ·exact absurd e e4
   ·rename_i h1;rw[if_neg h1];split at e
    ·exact absurd e e4
    ·rename_i h2;rw[if_neg h2];split at e
     ·rename_i h3;rw[if_pos h3];intro t ht;rcases List.mem_append.mp ht with q|q
      ·exact h t (List.mem_of_mem_take q)
      ·unfold ju at q;by_cases h6:i.1=6∧st≠ []
       ·rw[if_pos h6]at q;have hl:st.getLast?.getD (0,0) ∈st:=by
         rw[List.getLast?_eq_some_getLast h6.2];exact List.getLast_mem h6.2
        have ht:t=st.getLast?.getD (0,0):=by simpa using q
        rw[ht];exact h _ hl
       ·rw[if_neg h6]at q;exact hgv t q
     ·exact absurd e e4
 ·rw[if_neg g]at e;exact absurd e (show ¬(1:Int)=0 by decide)
theorem qnm{sup:List Int}{s t:Int×Int}(h:zG sup s.1 s.2 t.1 t.2=true)(g:zG sup t.1 t.2 s.1 s.2=true)(hs:kE s)(ht:kE t):s=t:=by
 obtain⟨s1,s2⟩:=s;obtain⟨t1,t2⟩:=t;rw[vM]at h g;dsimp only at h g;have a1:s1=4→s2=0:=hs;have a2:t1=4→t2=0:=ht;rcases h with⟨h1,h2⟩|⟨h1,h2,h3⟩|⟨h1,h2,h3⟩
 ·rcases g with⟨g1,_⟩|⟨g1,g2,_⟩|⟨g1,g2,_⟩
  ·rw[h1,g1,a1 h1,a2 g1]
  ·omega
  ·omega
 ·rcases g with⟨g1,_⟩|⟨_,_,g3⟩|⟨g1,g2,_⟩
  ·omega
  ·rw[h1,h2,q9s h3 g3]
  ·omega
 ·rw[h2,h3]
def vf(sup:List Int)(s t:Int×Int):Int×Int:=qX sup s.1 s.2 t.1 t.2
theorem qi2{sup:List Int}{s t:Int×Int}(hs:zG sup s.1 s.2 s.1 s.2=true)(ht:zG sup t.1 t.2 t.1 t.2=true)(h:(vf sup s t).1=0):
  ∀u:Int×Int,zG sup s.1 s.2 u.1 u.2=true→zG sup t.1 t.2 u.1 u.2=true→False:=fun u=>by
 rcases q7n (YT hs) (YT ht)with⟨_,q⟩|⟨q,_⟩
 ·exact q u.1 u.2
 ·exact absurd h q
theorem q43{sup:List Int}{s t:Int×Int}(hs:zG sup s.1 s.2 s.1 s.2=true)(ht:zG sup t.1 t.2 t.1 t.2=true)(h:¬(vf sup s t).1=0):
  zG sup s.1 s.2 (vf sup s t).1 (vf sup s t).2=true∧zG sup t.1 t.2 (vf sup s t).1 (vf sup s t).2=true∧
  ∀u:Int×Int,zG sup s.1 s.2 u.1 u.2=true→zG sup t.1 t.2 u.1 u.2=true→zG sup (vf sup s t).1 (vf sup s t).2 u.1 u.2=true:=by
 rcases q7n (YT hs) (YT ht)with⟨q,_⟩|⟨_,q1,q2,q3⟩
 ·exact absurd q h
 ·exact⟨q1,q2,fun u=>q3 u.1 u.2⟩
theorem qi1{sup:List Int}{s t:Int×Int}(hs:kE s)(ht:kE t):kE (vf sup s t):=qi0 hs ht
def Zn(sup:List Int)(ss ts:List (Int×Int)):List (Int×Int):=(ss.zip ts).map fun p=>vf sup p.1 p.2
theorem qi3{sup:List Int}{ss ts:List (Int×Int)}{k:Nat}(h1:k<ss.length)(h2:k<ts.length):((ss.zip ts).take (k+1)).map (fun p=>vf sup p.1 p.2)=((ss.zip ts).take k).map (fun p=>vf sup p.1 p.2)++[vf sup ss[k] ts[k]]:=by
 have hz:k<(ss.zip ts).length:=by rw[List.length_zip];omega
 rw[List.take_add_one,List.getElem?_eq_getElem hz,List.map_append,List.getElem_zip];rfl
theorem qj4{sup:List Int}{s:zu}{st:List (Int×Int)}{i:Nat}(h:s.seen=true)(h1:i<s.stack.length)(h2:i<st.length)(hs:zR sup s.stack s.stack)(ht:zR sup st st)(hz:(vf sup s.stack[i] st[i]).1=0):q6h sup s st:=
 ⟨h,fun U g1 g2=>qi2 (hs.2 i h1 h1) (ht.2 i h2 h2) hz U[i]! (by
  have hU:i<U.length:=by rw[←g1.1];exact h1
  rw[getElem!_pos U i hU];exact g1.2 i h1 hU) (by
  have hU:i<U.length:=by rw[←g1.1];exact h1
  rw[getElem!_pos U i hU];exact g2.2 i h2 hU)⟩
theorem qn7{sup:List Int}{s:zu}{st:List (Int×Int)}(h:s.seen=true)(hl:s.stack.length=st.length)(hs:zR sup s.stack s.stack)(ht:zR sup st st)(ns:vE s.stack)(nt:vE st)
  (hz:∀t ∈Zn sup s.stack st,¬t.1=0):(∀gr:Bool,(gr=false→Zn sup s.stack st=s.stack)→(gr=true→¬Zn sup s.stack st=s.stack)→Qo sup s st (Zn sup s.stack st) gr)∧vE (Zn sup s.stack st):=by
 have hlen:(Zn sup s.stack st).length=s.stack.length:=by unfold Zn;rw[List.length_map,List.length_zip];omega
 have hat:∀(i:Nat) (h1:i<s.stack.length) (h2:i<st.length) (h3:i<(Zn sup s.stack st).length),(Zn sup s.stack st)[i]=vf sup s.stack[i] st[i]:=fun i h1 h2 h3=>by
  have e:(Zn sup s.stack st)[i]? =some (vf sup s.stack[i] st[i]):=by
   unfold Zn;rw[List.getElem?_map,List.getElem?_eq_getElem (by rw[List.length_zip];omega),List.getElem_zip];rfl
  rw[List.getElem?_eq_getElem h3]at e;exact Option.some.inj e
 have hz':∀(i:Nat) (h1:i<s.stack.length) (h2:i<st.length),¬(vf sup s.stack[i] st[i]).1=0:=fun i h1 h2=>by
  rw[←hat i h1 h2 (by omega)];exact hz _ (List.getElem_mem _)
 have hnull:vE (Zn sup s.stack st):=fun t ht'=>by
  obtain⟨i,hi,rfl⟩:=List.getElem_of_mem ht';rw[hat i (by omega) (by omega) hi];exact qi1 (ns _ (List.getElem_mem _)) (nt _ (List.getElem_mem _))
 have hold:zR sup s.stack (Zn sup s.stack st):=⟨hlen.symm,fun i h1 h2=>by
  rw[hat i h1 (by omega) h2];exact(q43 (hs.2 i h1 h1) (ht.2 i (by omega) (by omega)) (hz' i h1 (by omega))).1⟩
 refine⟨fun gr g0 g1=>⟨⟨by rw[hlen,hl],fun i h1 h2=> ?_⟩,fun _=>hold,fun U a1 a2=>⟨by rw[hlen];exact(a1 h).1,fun i h1 h2=> ?_⟩,fun e=>⟨h,g0 e⟩,fun e _ hf=>g1 e ?_,fun _ _=>hnull⟩,hnull⟩
 ·have h0:i<s.stack.length:=by omega
  rw[hat i h0 h1 h2];exact(q43 (hs.2 i h0 h0) (ht.2 i h1 h1) (hz' i h0 h1)).2.1
 ·have h0:i<s.stack.length:=by omega
  have h3:i<st.length:=by omega
  rw[hat i h0 h3 h1];exact(q43 (hs.2 i h0 h0) (ht.2 i h3 h3) (hz' i h0 h3)).2.2 _ ((a1 h).2 i h0 h2) (a2.2 i h3 h2)
 ·refine List.ext_getElem hlen fun i h1 h2=> ?_;exact qnm (hf.2 i h1 h2) (hold.2 i h2 h1) (hnull _ (List.getElem_mem _)) (ns _ (List.getElem_mem _))
def q2p(m:za)(f:Int)(L:List (Int×Int))(NL:List Int):Prop:=∀R,vP m f R=true→∀n ∈NL,(zv R n).seen=true∧zR (zw m.classes) L (zv R n).stack
theorem kg.putR{m:za}{f:Int}{S:List zu}(h:kg m f S){q:Nat}{L J:List (Int×Int)}{NL:List Int}{gr:Bool}(hq:q<S.length)(hr:q2p m f L NL)(hn:(q:Int) ∈NL)
  (hc:Qo (zw m.classes) (zv S q) L J gr) (h8:L.length≤8):kg m f (S.set q ⟨true,J⟩):=by
 have hset:∀i:Nat,zv (S.set q ⟨true,J⟩) (i:Int)=if i=q then⟨true,J⟩else zv S (i:Int):=fun i=>Ym hq
 have hJ:zR (zw m.classes) J J:=hc.least J hc.old hc.up;refine⟨by rw[List.length_set];exact h.len,?_,fun s hs'=> ?_,fun s hs'=> ?_,fun R hR i hi hsi=> ?_⟩
 ·have h0:=hset 0;by_cases e:0=q
  ·rw[if_pos e]at h0;have hz:=hc.old (by rw[←e];exact h.first.1);rw[←e]at hz;have hl:=hz.1;have hf:(zv S ((0:Nat):Int)).stack=[]:=h.first.2;rw[hf]at hl;have hJ0:J=[]:=List.eq_nil_of_length_eq_zero hl.symm;have e2:zv (S.set q ⟨true,J⟩) 0=⟨true,J⟩:=h0;rw[e2];exact⟨rfl,hJ0⟩
  ·rw[if_neg e]at h0;have e2:zv (S.set q ⟨true,J⟩) 0=zv S 0:=h0;rw[e2];exact h.first
 ·rcases List.mem_or_eq_of_mem_set hs' with g|g
  ·exact h.self s g
  ·rw[g];exact hJ
 ·rcases List.mem_or_eq_of_mem_set hs' with g|g
  ·exact h.small s g
  ·rw[g];show J.length≤8;rw[←hc.up.1];exact h8
 ·rw[List.length_set]at hi;rw[hset]at hsi⊢
  by_cases e:i=q
  ·rw[if_pos e];subst e;obtain⟨a1,a2⟩:=hr R hR _ hn;exact⟨a1,hc.least _ (fun g=>(h.low R hR i hi g).2) a2⟩
  ·rw[if_neg e]at hsi⊢
   exact h.low R hR i hi hsi
theorem kg.noneR{m:za}{f:Int}{S:List zu}(h:kg m f S){q:Nat}{L:List (Int×Int)}{NL:List Int}(hq:q<S.length)(hr:q2p m f L NL)(hn:(q:Int) ∈NL)
  (hb:q6h (zw m.classes) (zv S q) L):∀R,vP m f R=false:=fun R=>by
 rw[Bool.eq_false_iff];intro hR;exact hb.2 _ (h.low R hR q hq hb.1).2 (hr R hR _ hn).2
structure kS(m:za)(f:Int)(S:List zu):Prop where
 grow:Qc m f S
 low:kg m f S
 nul:∀s ∈S,vE s.stack
 dry:∀s ∈S,s.seen=false→s.stack=[]
 lens:∀k,(∃t ∈S,t.seen=true∧t.stack.length=k+1)→∃t ∈S,t.seen=true∧t.stack.length=k
def q0b(m:za)(n:Nat):Nat:=qQ (zw m.classes).length (⟨true,[]⟩::List.replicate n (⟨false,[]⟩:zu))
theorem qr7{c:Prop}[Decidable c]{A B:List (Int×Int)}(hA:A.length≤1)(hB:B.length≤1):(if c then A else B).length≤1:=by
 by_cases g:c
 ·rw[if_pos g];exact hA
 ·rw[if_neg g];exact hB
theorem qff(x:ze):(jd x).length≤1:=by
 unfold jd;split
 ·exact Nat.zero_le _
 ·exact zn _
theorem qia(m:za)(x:ze)(op a b:Int):(zB m x op a b).length≤1:=by
 unfold zB
 repeat' apply qr7
 all_goals first|exact qff _|exact Nat.zero_le _|exact zn _
theorem qmf(m:za)(x:ze)(op a b:Int)(st:List (Int×Int)):(ju m x op a b st).length≤(qO m x op a b st).length+1:=by
 unfold ju qO;by_cases h:op=6∧st≠ []
 ·rw[if_pos h,if_pos h];exact zn _
 ·rw[if_neg h,if_neg h];have:=qia m x op a b;omega
def vW(S:List zu)(k:Nat):Prop:=∃t ∈S,t.seen=true∧t.stack.length=k
def YJ(S:List zu):Prop:=∀k,vW S (k+1)→vW S k
theorem YJ.down{S:List zu}(h:YJ S){k:Nat}(hk:vW S k):∀j,j≤k→vW S j:=by
 induction k with
 |zero=>
  intro j hj;have:j=0:=by omega
  subst this;exact hk
 |succ k ih=>
  intro j hj;rcases Nat.eq_or_lt_of_le hj with e|q
  ·subst e;exact hk
  ·exact ih (h k hk) j (by omega)
theorem vW.set{S:List zu}{q k:Nat}{x:zu}(hq:q<S.length)(hx:x.seen=true)(he:S[q].seen=true→x.stack.length=S[q].stack.length)(h:vW S k):vW (S.set q x) k:=by
 obtain⟨t,ht,hs,hl⟩:=h;obtain⟨i,hi,e⟩:=List.getElem_of_mem ht;by_cases h1:i=q
 ·subst h1;exact⟨x,List.mem_iff_getElem.mpr ⟨i,by rw[List.length_set];exact hi,by rw[List.getElem_set_self]⟩,hx,by rw[he (by rw[e];exact hs),e];exact hl⟩
 ·exact⟨t,List.mem_iff_getElem.mpr ⟨i,by rw[List.length_set];exact hi,by rw[List.getElem_set_ne (fun z=>h1 z.symm)];exact e⟩,hs,hl⟩
theorem YJ.set{S:List zu}{q j:Nat}{x:zu}(h:YJ S)(hq:q<S.length)(hx:x.seen=true)(he:S[q].seen=true→x.stack.length=S[q].stack.length)(hn:S[q].seen=false→vW S j∧x.stack.length≤j+1):YJ (S.set q x):=fun k hk=>by
 refine vW.set hq hx he ?_;obtain⟨t,ht,hs,hl⟩:=hk;rcases List.mem_or_eq_of_mem_set ht with g|g
 ·exact h k ⟨t,g,hs,hl⟩
 ·subst g;cases hsq:S[q].seen with
  |true=>exact h k ⟨S[q],List.getElem_mem hq,hsq,by rw[←he hsq];exact hl⟩
  |false=>
   obtain⟨h1,h2⟩:=hn hsq;exact h.down h1 k (by omega)
theorem q14{n:Nat}{x:zu}:∀{S:List zu},x ∈S→qQ n S=jP n x+qQ n (S.erase x)
 | [],h=>by cases h
 |s::S,h=>by
  by_cases e:s=x
  ·subst e;rw[List.erase_cons_head];rfl
  ·rw[List.erase_cons_tail (by simpa using e)];have h':x ∈S:=by
    rcases List.mem_cons.mp h with g|g
    ·exact absurd g.symm e
    ·exact g
   have:=q14 (n:=n) h';show jP n s+qQ n S=jP n x+(jP n s+qQ n (S.erase x))
   omega
theorem qa8{n c:Nat}:∀{S:List zu},(∀s ∈S,c≤jP n s)→S.length*c≤qQ n S
 | [],_=>by simp
 |s::S,h=>by
  have h1:=h s (List.mem_cons_self ..);have h2:=qa8 (n:=n) (c:=c) (S:=S) (fun t ht=>h t (List.mem_cons_of_mem _ ht));show(S.length+1)*c≤jP n s+qQ n S;rw[Nat.succ_mul];omega
theorem q1u{n:Nat}{s:zu}:max n 1*(8 - s.stack.length)≤jP n s:=by
 unfold jP;split
 ·omega
 ·have:max n 1*(8 - s.stack.length)≤max n 1*8:=Nat.mul_le_mul_left _ (by omega);omega
theorem qkz{n k:Nat}:qQ n (List.replicate k (⟨false,[]⟩:zu))=k*(8*max n 1+1):=by
 induction k with
 |zero=>simp[qQ]
 |succ k ih=>
  have e:jP n ⟨false,[]⟩=8*max n 1+1:=rfl;show jP n ⟨false,[]⟩+qQ n (List.replicate k _)=_;rw[ih,e,Nat.add_comm];exact(Nat.succ_mul k _).symm
theorem qgo{m:za}{S:List zu}{n:Nat}(hS:S.length=n+1)(hn:n≤63)(hc:m.classes.length≤8)(h:YJ S)(hs:∀s ∈S,s.stack.length≤8):q0b m n<qQ (zw m.classes).length S+4000:=by
 have hr:q0b m n=8*max (zw m.classes).length 1+n*(8*max (zw m.classes).length 1+1):=by
  unfold q0b;show jP _ ⟨true,[]⟩+qQ _ _=_;rw[qkz];unfold jP;rw[if_pos rfl];show(0+max _ 1*(8 - 0))+_=_;omega
 rw[vZ]at hr⊢
 obtain⟨K,hK⟩:∃K,max m.classes.length 1=K:=⟨_,rfl⟩
 have hK8:K≤8:=by omega
 rw[hK]at hr;rw[hr];rcases Nat.lt_or_ge K 8 with k7|k8
 ·have h1:n*(8*K+1)≤63*(8*7+1):=Nat.mul_le_mul hn (by omega);omega
 have hK':K=8:=by omega
 subst hK';rcases Nat.lt_or_ge n 61 with n0|n0
 ·omega
 by_cases h8:vW S 8
 ·obtain⟨t0,m0,s0,l0⟩:=h.down h8 0 (by omega);obtain⟨t1,m1,s1,l1⟩:=h.down h8 1 (by omega);obtain⟨t2,m2,s2,l2⟩:=h.down h8 2 (by omega);have n01:t1≠t0:=fun e=>by rw[e]at l1;omega
  have n02:t2≠t0:=fun e=>by rw[e]at l2;omega
  have n12:t2≠t1:=fun e=>by rw[e]at l2;omega
  have e0:=q14 (n:=m.classes.length) m0;have e1:=q14 (n:=m.classes.length) ((List.mem_erase_of_ne n01).mpr m1);have e2:=q14 (n:=m.classes.length) ((List.mem_erase_of_ne n12).mpr ((List.mem_erase_of_ne n02).mpr m2));have r0:=q1u (n:=m.classes.length) (s:=t0);have r1:=q1u (n:=m.classes.length) (s:=t1);have r2:=q1u (n:=m.classes.length) (s:=t2);rw[hK,l0]at r0;rw[hK,l1]at r1;rw[hK,l2]at r2;omega
 ·have hlow:∀s ∈S,8≤jP m.classes.length s:=fun s hm=>by
   have h1:=q1u (n:=m.classes.length) (s:=s);cases hse:s.seen with
   |false=>
    unfold jP;rw[hse,if_neg (by decide)];omega
   |true=>
    have h7:s.stack.length≠8:=fun e=>h8 ⟨s,hm,hse,e⟩;have:=hs s hm;rw[hK]at h1;omega
  have:=qa8 hlow;omega
theorem qk3{m:za}{f pc:Int}{st:List (Int×Int)}(h:(zK m f pc st).err=0):(zK m f pc st).after.length≤st.length+1:=by
 unfold zK at h⊢
 split
 ·rename_i h1;rw[if_pos h1]at h;split
  ·rename_i i hi;rw[hi]at h;dsimp only at h;unfold qr at h⊢
   split
   ·rename_i h2;rw[if_pos h2]at h;cases h
   ·rename_i h2;rw[if_neg h2]at h;split
    ·rename_i h3;rw[if_pos h3]at h;cases h
    ·rename_i h3;rw[if_neg h3]at h;split
     ·dsimp only;rw[List.length_append,List.length_take];have h4:=qmf m (zm m f) i.1 i.2.1 i.2.2 st;omega
     ·rename_i h4;rw[if_neg h4]at h;cases h
  ·rename_i hi;rw[hi]at h;cases h
 ·rename_i h1;rw[if_neg h1]at h;cases h
theorem vW.put{S:List zu}{q k:Nat}{sup:List Int}{L J:List (Int×Int)}{gr:Bool}(h:vW S k)(hq:q<S.length)(hc:Qo sup (zv S (q:Int)) L J gr):vW (S.set q ⟨true,J⟩) k:=by
 have e:zv S (q:Int)=S[q]:=QC hq;rw[e]at hc;exact vW.set hq rfl (fun hs=>(hc.old hs).1.symm) h
theorem kS.start{m:za}{f:Int}{n:Nat}(h:Qc m f (⟨true,[]⟩::List.replicate n (⟨false,[]⟩:zu)))(hn:(zm m f).code.length=n+1):kS m f (⟨true,[]⟩::List.replicate n (⟨false,[]⟩:zu)):=
 ⟨h,qlz hn,fun s hs=>by
  rcases List.mem_cons.mp hs with rfl|hs
  ·exact fun t ht=>absurd ht (by simp)
  ·rw[(List.mem_replicate.mp hs).2];exact fun t ht=>absurd ht (by simp),fun s hs _=>by
  rcases List.mem_cons.mp hs with rfl|hs
  ·rfl
  ·rw[(List.mem_replicate.mp hs).2],fun k ⟨t,ht,hs,hl⟩=>by
  rcases List.mem_cons.mp ht with rfl|ht
  ·simp at hl
  ·rw[(List.mem_replicate.mp ht).2]at hs;cases hs⟩
theorem kS.put{m:za}{f:Int}{S:List zu}(h:kS m f S){p q:Nat}{L J:List (Int×Int)}{NL:List Int}{gr:Bool}(hq:q<S.length)(hp:p<S.length)(hs:(zv S p).seen=true)(hn:(q:Int) ∈ZR m f p)(hr:q2p m f L NL)(hm:(q:Int) ∈NL)
  (hc:Qo (zw m.classes) (zv S q) L J gr) (h8:L.length≤8) (hz:vE J) {j:Nat} (hj:vW S j) (hlj:L.length≤j+1):kS m f (S.set q ⟨true,J⟩):=
 ⟨h.grow.put hq hp hs hn (by rw[←hc.up.1];exact h8),h.low.putR hq hr hm hc h8,fun s hs'=>by
  rcases List.mem_or_eq_of_mem_set hs' with g|g
  ·exact h.nul s g
  ·rw[g];exact hz,(fun s hs' hse=>by
   rcases List.mem_or_eq_of_mem_set hs' with g|g
   ·exact h.dry s g hse
   ·rw[g]at hse;cases hse),by
  have e:zv S (q:Int)=S[q]:=QC hq;rw[e]at hc;exact YJ.set (S:=S) h.lens hq rfl (fun hs=>(hc.old hs).1.symm) (fun _=>⟨hj,by show J.length≤j+1;rw[←hc.up.1];exact hlj⟩)⟩
theorem kS.step{m:za}{f:Int}{S:List zu}(hm:zP m)(h:kS m f S){pc:Nat}{L:List (Int×Int)}{NL:List Int}(hp:pc<S.length)(hs:(zv S pc).seen=true)(e:zK m f pc (zv S pc).stack=⟨L,NL,0⟩):q2p m f L NL∧zR (zw m.classes) L L∧vE L:=by
 have hself:zR (zw m.classes) (zv S pc).stack (zv S pc).stack:=h.low.self _ (Vl hp);have h1:=q7u (f:=f) (pc:=(pc:Int)) hm hself (by rw[e]);have h2:=qk2 (f:=f) (pc:=(pc:Int)) hm (h.nul _ (Vl hp)) (by rw[e]);rw[e]at h1 h2;exact⟨fun R hR n hn=>by
  have:=(h.low.right hm hR hp hs).2 n (by rw[e];exact hn);rw[e]at this;exact this,h1.2.2,h2⟩
end Go.Proofs.YtdbfllajopcccaaGreat
