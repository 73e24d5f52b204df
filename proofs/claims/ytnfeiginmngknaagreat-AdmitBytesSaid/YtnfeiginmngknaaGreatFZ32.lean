import Derived.Test.YtnfeiginmngknaaGreatFZ31
namespace Go.Proofs.YtnfeiginmngknaaGreat
set_option maxRecDepth 100000
set_option linter.unusedVariables false
set_option linter.unusedSimpArgs false
open Go.ChangeShapes Go.WideShapes Go.ChangeAt Go.RowKit
theorem jP{α:Type}{At:qV α}(hK:ZC At){k:Nat}{w w':World}{A:Option Addr}{c:Nat}{l:List α}(h:zd At k w w.heap.size A c l)(hb:Below w.heap.size w w'):zd At k w' w'.heap.size A c l:=
 (h.below_to hK hb (zn _)).keep' hK hb.size (fun _ _=>rfl)
theorem UR{m:za}{h:zh}{f pc:Int}{st L:List (Int×Int)}{NL:List Int}{er:Int}{A:Option Addr}{cap n:Nat}{w0 w:World}(HI:Hid (zr w0 w0.heap.size h m))(HX:Hid (Below w0.heap.size w0 w))(HM:Hid (zP m))(HN:Hid (st.length=n))(HS:Hid (zd zf 2 w w.heap.size A cap st))(hs:n<=4000)(HR:Hid (zI m f pc st=⟨L,NL,er⟩)):
  Calls Tryz.prog 54 #[zv h m,.int .i64 f,.int .i64 pc,.slice A n cap] w fun e w'=>∃A c A' c',e= .returned (.tuple #[.slice A L.length c,.slice A' NL.length c',.int .i64 er])/\zd zf 2 w' w'.heap.size A c L/\zd zu 1 w' w'.heap.size A' c' NL/\Below w.heap.size w w':=by
 obtain rfl:=HN.out;have H:=qbi m f pc st A cap h w (HI.out.now HX.out) HM.out HS.out hs;rw[HR.out]at H;exact H
theorem slcDr{α:Type}{At:qV α}(hK:ZC At){k:Nat}{w:World}{A:Option Addr}{c:Nat}{l:List α}(h:zd At k w w.heap.size A c l):zd At k w.drew w.drew.heap.size A c l:=h.keep' hK (zn _) (fun _ _=>rfl)
theorem Ua{w:World}{B:Nat}{h:zh}{m:za}(H:zr w B h m){G:Nat}(hG:G<m.methods.length):∃ad A4 j4,h.A3=some ad/\ad.block<B/\w.cell? (zc (ad.add (G*8)) 4)=some (.slice A4 m.methods[G].code.length j4):=by
 obtain⟨ad,hn,e0,hb,VU,hmc⟩:=Zx H hG;exact⟨ad,hn.A4,hn.k4,e0,hb,hmc.c4⟩
theorem pG{m:za}{x:zl}{F P:Nat}{op a b:Int}{st:List (Int×Int)}(hx:m.methods[F]? =some x)(hi:x.code[P]? =some (op,a,b)):zI m F P st=qT m x P op a b st:=by
 have hF:=(Xv.mp hx).1;have hP:=(Xv.mp hi).1;unfold zI zA
 grind
theorem qge{m:za}{f pc:Int}{S:List zq}(hs:(zx S pc).seen=false):kR m f S pc=true:=by unfold kR;rw[hs];rfl
def rD(m:za)(f q:Int):List Int:=match(zA m f).code[q.toNat]? with
 |some i=>jt q i.1 i.2.1
 |none=> []
theorem qcm{m:za}{x:zl}{F P:Nat}{op a b:Int}(hx:m.methods[F]? =some x)(hi:x.code[P]? =some (op,a,b)):rD m F P=jt P op a:=by
 unfold rD zA
 grind
theorem PP{m:za}{x:zl}{pc op a b:Int}{st:List (Int×Int)}(he:(qT m x pc op a b st).err=0):(qT m x pc op a b st).next=jt pc op a/\(qT m x pc op a b st).after.length<=8:=by
 have e4:¬(qS 4).err=0:=by unfold qS;decide
 unfold qT at he⊢
 grind
def Tj(m:za)(f:Int)(S:List zq)(pc:Nat):Prop:=(zx S pc).seen=true->(zI m f pc (zx S pc).stack).err=0/\∀n ∈(zI m f pc (zx S pc).stack).next,(zx S n).seen=true/\(zI m f pc (zx S pc).stack).after.length=(zx S n).stack.length
structure rR(m:za)(f:Int)(S:List zq):Prop where
 len:S.length=(zA m f).code.length
 first:(zx S 0).seen=true
 pred:∀i:Nat,i<S.length->i≠0->(zx S i).seen=true->∃q:Nat,q<S.length/\q≠i/\(zx S q).seen=true/\(i:Int) ∈rD m f q
 small:∀s ∈S,s.stack.length<=8
structure wO(m:za)(f:Int)(S:List zq):Prop where
 grow:rR m f S
 done:∀pc,pc<S.length->Tj m f S pc
theorem pQ{S:List zq}{q i:Nat}{s:zq}(hq:q<S.length):zx (S.set q s) (i:Int)=if i=q then s else zx S (i:Int):=by
 unfold zx
 grind
theorem rR.put{m:za}{f:Int}{S:List zq}(h:rR m f S){p q:Nat}{L:List (Int×Int)}(hq:q<S.length)(hp:p<S.length)(hs:(zx S p).seen=true)(hn:(q:Int) ∈rD m f p)(hL:L.length<=8):rR m f (S.set q ⟨true,L⟩):=by
 have hset:∀i:Nat,zx (S.set q ⟨true,L⟩) (i:Int)=if i=q then⟨true,L⟩else zx S (i:Int):=fun i=>pQ hq
 have hkeep:∀i:Nat,(zx S i).seen=true->(zx (S.set q ⟨true,L⟩) (i:Int)).seen=true:=(by grind)
 refine⟨by rw[XH];exact h.len,hkeep 0 h.first,fun i hi h0 hsi=> ?_,fun s hs'=> ?_⟩
 ·rw[XH]at hi;rw[XH];by_cases e:(zx S i).seen=true
  ·obtain⟨r,r1,r2,r3,r4⟩:=h.pred i hi h0 e
   grind
  grind
 ·rcases X8 hs' with g|g
  ·exact h.small s g
  grind
theorem mf{X:List zg}{i:Nat}(hi:i<X.length):zx (X.map zg.shp) (i:Int)=X[i].shp:=by
 grind [bS,Xm]
structure SeenS(m:za)(f:Int)(S:List zq):Prop where
 len:S.length=(zA m f).code.length
 first:(zx S 0).seen=true
 small:∀s ∈S,s.stack.length<=8
structure fD(m:za)(f:Int)(S:List zq):Prop where
 grow:SeenS m f S
 done:∀pc,pc<S.length->Tj m f S pc
theorem wO.set{m:za}{f:Int}{S:List zq}(h:wO m f S):fD m f S:=⟨⟨h.grow.len,h.grow.first,h.grow.small⟩,h.done⟩
def vc(sup:List Int)(s t:Int×Int):Int×Int:=if zB sup t.1 t.2 s.1 s.2=true then s else qu sup s.1 s.2 t.1 t.2
theorem lU{sup:List Int}{k n:Int}(h:zB sup k n k n=true):Ba sup k n:=fun e=>by
 subst e;rw[JN]at h;rcases h with⟨h,_⟩|⟨_,_,h⟩|⟨h,_,_⟩
 ·omega
 ·have:=Jb h;omega
 ·omega
theorem TW{sup:List Int}{k n k' n':Int}(h:(qu sup k n k' n').1=0):qu sup k n k' n'=(0,0):=by
 by_cases h1:zB sup k n k' n'=true
 ·have e:qu sup k n k' n'=(k',n'):=by unfold qu;grind
  grind [uQ]
 ·by_cases h2:zB sup k' n' k n=true
  ·have e:qu sup k n k' n'=(k,n):=by unfold qu;grind
   grind [uQ]
  ·by_cases h3:k=3/\k'=3
   ·have e:qu sup k n k' n'=jz ((zz sup n).drop 1) (zz sup n'):=by unfold qu;grind
    grind [JN,Fb]
   ·unfold qu
    grind
theorem q7z{sup:List Int}{s t:Int×Int}(hs:zB sup s.1 s.2 s.1 s.2=true)(ht:zB sup t.1 t.2 t.1 t.2=true)(h:(vc sup s t).1=0):
  vc sup s t=(0,0)/\∀u:Int×Int,zB sup s.1 s.2 u.1 u.2=true->zB sup t.1 t.2 u.1 u.2=true->False:=by
 unfold vc at h⊢
 by_cases g:zB sup t.1 t.2 s.1 s.2=true
 ·rw[Xb g]at h
  grind [uQ]
 ·rw[Xa g]at h;rw[Xa g]
  grind [TW,Dl,lU]
theorem J4{sup:List Int}{s t:Int×Int}(hs:zB sup s.1 s.2 s.1 s.2=true)(ht:zB sup t.1 t.2 t.1 t.2=true)(h:¬(vc sup s t).1=0):
  zB sup s.1 s.2 (vc sup s t).1 (vc sup s t).2=true/\zB sup t.1 t.2 (vc sup s t).1 (vc sup s t).2=true/\
  ∀u:Int×Int,zB sup s.1 s.2 u.1 u.2=true->zB sup t.1 t.2 u.1 u.2=true->zB sup (vc sup s t).1 (vc sup s t).2 u.1 u.2=true:=by
 unfold vc at h⊢
 by_cases g:zB sup t.1 t.2 s.1 s.2=true
 ·grind
 ·rw[Xa g]at h;rw[Xa g]
  grind [Dl,lU]
def jr(sup:List Int):List (Int×Int)->List (Int×Int)->Nat->List (Int×Int)
 |s::ss,t::ts,k+1=>vc sup s t::jr sup ss ts k
 |ss,_,_=>ss
theorem Kc(sup:List Int)(ss ts:List (Int×Int)):jr sup ss ts 0=ss:=by
 cases ss with
 |nil=>rfl
 |cons s ss=>
  cases ts with
  |nil=>rfl
  |cons t ts=>rfl
theorem eD(sup:List Int):∀(ss ts:List (Int×Int)) (k:Nat),(jr sup ss ts k).length=ss.length
 | [],_,_=>by simp[jr]
 |s::ss,[],_=>by simp[jr]
 |s::ss,t::ts,0=>by rw[Kc]
 |s::ss,t::ts,k+1=>by
  show(vc sup s t::jr sup ss ts k).length=_;rw[XI,eD sup ss ts k,XI]
theorem uY(sup:List Int):∀(ss ts:List (Int×Int)) (k i:Nat) (h1:i<ss.length) (h2:i<ts.length),(jr sup ss ts k)[i]? =some (if i<k then vc sup ss[i] ts[i]else ss[i])
 | [],_,_,_,h,_=>by simp at h
 |s::ss,[],_,_,_,h=>by simp at h
 |s::ss,t::ts,0,i,h1,h2=>by
  rw[Kc,Xa (Nat.not_lt_zero _),Xc h1]
 |s::ss,t::ts,k+1,0,h1,h2=>by
  rw[Xb (Nat.succ_pos _)];rfl
 |s::ss,t::ts,k+1,i+1,h1,h2=>by
  have h:=uY sup ss ts k i (by grind) (by grind);show(jr sup ss ts k)[i]? =_
  grind
theorem WM(sup:List Int){ss ts:List (Int×Int)}{k:Nat}(h1:k<ss.length)(h2:k<ts.length):(jr sup ss ts k)[k]? =some ss[k]:=by
 rw[uY sup ss ts k k h1 h2,Xa (Nat.lt_irrefl _)]
theorem Su(sup:List Int){ss ts:List (Int×Int)}{k:Nat}(hl:ss.length=ts.length)(h1:k<ss.length)(h2:k<ts.length):jr sup ss ts (k+1)=(jr sup ss ts k).set k (vc sup ss[k] ts[k]):=by
 refine List.ext_getElem? fun i=> ?_;rcases Xl i ss.length with hi|hi
 ·rw[uY sup ss ts (k+1) i hi (by omega),Wf,uY sup ss ts k i hi (by omega)];by_cases e:k=i
  ·subst e;rw[Xb (Nat.lt_succ_self _),Xb rfl,Xb (by rw[eD];exact h1)]
  grind
 grind [XE,eD,XH]
theorem q9h(sup:List Int){ss ts:List (Int×Int)}{k:Nat}(hl:ss.length=ts.length)(h1:k<ss.length)(h2:k<ts.length)(h:zB sup ts[k].1 ts[k].2 ss[k].1 ss[k].2=true):jr sup ss ts (k+1)=jr sup ss ts k:=by
 have e:vc sup ss[k] ts[k]=ss[k]:=by unfold vc;grind
 rw[Su sup hl h1 h2,e];refine List.ext_getElem? fun i=> ?_;rw[Wf];by_cases q:k=i
 ·subst q;rw[Xb rfl,Xb (by rw[eD];exact h1),WM sup h1 h2]
 grind
theorem zL.trans'{sup:List Int}{a b c:List (Int×Int)}(h:zL sup a b)(g:zL sup b c):zL sup a c:=
 ⟨h.1.trans g.1,fun i h1 h2=>IW (h.2 i h1 (by rw[<-h.1];exact h1)) (g.2 i (by rw[<-h.1];exact h1) h2)⟩
theorem WB(sup:List Int):zL sup [] []:=⟨rfl,fun i h=>by simp at h⟩
def Qq(t:Int×Int):Prop:=t.1=4->t.2=0
def ku(l:List (Int×Int)):Prop:=∀t ∈l,Qq t
theorem R4{sup:List Int}{s t:Int×Int}(hs:Qq s)(ht:Qq t):Qq (qu sup s.1 s.2 t.1 t.2):=by
 unfold qu;split
 ·exact ht
 ·split
  ·exact hs
  ·split
   ·unfold Qq;intro e;have h3:∀(a b:List Int),(jz a b).1=4->(jz a b).2=0:=by
     intro a b
     induction a with
     |nil=>intro _;rfl
     |cons x r ih=>
      unfold jz
      grind
    grind
   ·intro e;cases e
theorem q7y{sup:List Int}{s t:Int×Int}(hs:Qq s)(ht:Qq t):Qq (vc sup s t):=by
 unfold vc
 grind [R4]
structure ZT(sup:List Int)(s:zq)(st J:List (Int×Int))(grown:Bool):Prop where
 up:zL sup st J
 old:s.seen=true->zL sup s.stack J
 least:∀U,(s.seen=true->zL sup s.stack U)->zL sup st U->zL sup J U
 same:grown=false->s.seen=true/\J=s.stack
 more:grown=true->s.seen=true->¬zL sup J s.stack
 null:(s.seen=true->ku s.stack)->ku st->ku J
def mH(sup:List Int)(s:zq)(st:List (Int×Int)):Prop:=s.seen=true/\∀U,zL sup s.stack U->zL sup st U->False
theorem Sr{sup:List Int}{s:zq}{st:List (Int×Int)}(h:s.seen=false)(hst:zL sup st st):ZT sup s st st true:=
 ⟨hst,(by grind),fun U _ g=>g,(fun e=>by cases e),(by grind),fun _ q=>q⟩
theorem Uo{sup:List Int}{s:zq}{st:List (Int×Int)}(h:s.seen=true)(hl:¬st.length=s.stack.length):mH sup s st:=⟨h,fun U g1 g2=>hl (g2.1.trans g1.1.symm)⟩
theorem qef{sup:List Int}{s:zq}{st:List (Int×Int)}{i:Nat}(h:s.seen=true)(h1:i<s.stack.length)(h2:i<st.length)(hs:zL sup s.stack s.stack)(ht:zL sup st st)(hz:(vc sup s.stack[i] st[i]).1=0):mH sup s st:=
 ⟨h,fun U g1 g2=>(q7z (hs.2 i h1 h1) (ht.2 i h2 h2) hz).2 U[i]! (by
  have hU:i<U.length:=by rw[<-g1.1];exact h1
  rw[getElem!_pos U i hU];exact g1.2 i h1 hU) (by
  have hU:i<U.length:=by rw[<-g1.1];exact h1
  rw[getElem!_pos U i hU];exact g2.2 i h2 hU)⟩
theorem qi1{sup:List Int}{s:zq}{st:List (Int×Int)}{grown:Bool}(h:s.seen=true)(hl:st.length=s.stack.length)(hs:zL sup s.stack s.stack)(ht:zL sup st st)
  (hz:∀(i:Nat) (h1:i<s.stack.length) (h2:i<st.length),¬(vc sup s.stack[i] st[i]).1=0)
  (hg0:grown=false->∀(i:Nat) (h1:i<s.stack.length) (h2:i<st.length),zB sup st[i].1 st[i].2 s.stack[i].1 s.stack[i].2=true)
  (hg1:grown=true->∃(i:Nat) (h1:i<s.stack.length) (h2:i<st.length),¬zB sup st[i].1 st[i].2 s.stack[i].1 s.stack[i].2=true):
  ZT sup s st (jr sup s.stack st st.length) grown:=by
 have hlen:(jr sup s.stack st st.length).length=s.stack.length:=eD ..;have hat:∀(i:Nat) (h1:i<s.stack.length) (h2:i<st.length) (h3:i<(jr sup s.stack st st.length).length),(jr sup s.stack st st.length)[i]=vc sup s.stack[i] st[i]:=fun i h1 h2 h3=>by
  have:=uY sup s.stack st st.length i h1 h2
  grind
 have hup:zL sup st (jr sup s.stack st st.length):=⟨by omega,fun i h1 h2=>by
  have h0:i<s.stack.length:=by omega
  rw[hat i h0 h1 h2];exact(J4 (hs.2 i h0 h0) (ht.2 i h1 h1) (hz i h0 h1)).2.1⟩
 refine⟨hup,fun _=>⟨hlen.symm,fun i h1 h2=> ?_⟩,fun U g1 g2=>⟨by rw[hlen];exact(g1 h).1,fun i h1 h2=> ?_⟩,fun e=>⟨h,?_⟩,fun e _ hf=> ?_,fun hn nt t ht'=> ?_⟩
 ·rw[hat i h1 (by omega) h2];exact(J4 (hs.2 i h1 h1) (ht.2 i (by omega) (by omega)) (hz i h1 (by omega))).1
 ·have h0:i<s.stack.length:=by omega
  have h3:i<st.length:=by omega
  rw[hat i h0 h3 h1];exact(J4 (hs.2 i h0 h0) (ht.2 i h3 h3) (hz i h0 h3)).2.2 _ ((g1 h).2 i h0 h2) (g2.2 i h3 h2)
 ·refine Wh hlen fun i h1 h2=> ?_;have h3:i<st.length:=by omega
  rw[hat i h2 h3 h1];unfold vc
  grind
 ·obtain⟨i,h1,h2,hn⟩:=hg1 e;have h3:i<(jr sup s.stack st st.length).length:=by omega
  exact hn (IW (hup.2 i h2 h3) (hf.2 i h3 h1))
 ·obtain⟨i,hi,rfl⟩:=We ht';have h0:i<s.stack.length:=by omega
  have h3:i<st.length:=by omega
  rw[hat i h0 h3 hi];exact q7y (hn h _ (Xd _)) (nt _ (Xd _))
def mX(n:Nat)(t:Int×Int):Nat:=if t.1=4 then max n 1 else if t.1=3 then t.2.toNat else 0
theorem qg9{sup:List Int}{a:Int×Int}(h:zB sup a.1 a.2 a.1 a.2=true):mX sup.length a<=max sup.length 1:=by
 unfold mX;by_cases h4:a.1=4
 ·grind
 ·rw[Xa h4];by_cases h3:a.1=3
  ·rw[Xb h3];have:=lU h h3;omega
  grind
theorem q72{sup:List Int}{a b:Int×Int}(h:zB sup a.1 a.2 b.1 b.2=true)(hb:zB sup b.1 b.2 b.1 b.2=true):mX sup.length b<=mX sup.length a/\(¬zB sup b.1 b.2 a.1 a.2=true->mX sup.length b<mX sup.length a):=by
 have ht:=lU hb;obtain⟨a1,a2⟩:=a;obtain⟨b1,b2⟩:=b;dsimp only at*
 unfold Ba at ht;unfold mX;dsimp only;have h':=h;rw[JN]at h';rcases h' with⟨rfl,g⟩|⟨rfl,rfl,g⟩|⟨g,rfl,rfl⟩
 ·rw[Xb rfl];rcases g with rfl|rfl|rfl
  ·grind
  ·grind
  ·refine⟨by grind,(by grind [JN])⟩
 ·have hr:=Jb g
  grind
 grind
def fe(n:Nat):List (Int×Int)->Nat
 | []=>0
 |t::ts=>mX n t+fe n ts
theorem KL{sup:List Int}{a b:Int×Int}{s t:List (Int×Int)}:zL sup (a::s) (b::t)↔zB sup a.1 a.2 b.1 b.2=true/\zL sup s t:=by
 constructor
 ·intro h;refine⟨h.2 0 (Nat.succ_pos _) (Nat.succ_pos _),by simpa using h.1,fun i h1 h2=>h.2 (i+1) (Nat.succ_lt_succ h1) (Nat.succ_lt_succ h2)⟩
 ·rintro⟨h0,h⟩;refine⟨by rw[XI,XI,h.1],fun i h1 h2=> ?_⟩
  match i,h1,h2 with
  |0,_,_=>exact h0
  |i+1,h1,h2=>exact h.2 i (by grind) (by grind)
theorem UZ{sup:List Int}:∀{s:List (Int×Int)},zL sup s s->fe sup.length s<=s.length*max sup.length 1
 | [],_=>by simp[fe]
 |t::ts,h=>by
  rw[KL]at h;have h1:=qg9 h.1;have h2:=UZ h.2;unfold fe;rw[XI,Nat.succ_mul];omega
theorem RH{sup:List Int}:∀{s J:List (Int×Int)},zL sup s J->zL sup J J->fe sup.length J<=fe sup.length s/\(¬zL sup J s->fe sup.length J<fe sup.length s)
 | [],[],_,_=>(by grind)
 | [],_::_,h,_=>by have:=h.1;simp at this
 |_::_,[],h,_=>by have:=h.1;simp at this
 |a::s,b::t,h,g=>by
  rw[KL]at h g;obtain⟨a1,a2⟩:=q72 h.1 g.1;obtain⟨b1,b2⟩:=RH h.2 g.2;unfold fe
  grind [KL]
def kp(n:Nat)(s:zq):Nat:=if s.seen then fe n s.stack+max n 1*(8 - s.stack.length)else 8*max n 1+1
def qx(n:Nat):List zq->Nat
 | []=>0
 |s::S=>kp n s+qx n S
theorem Tu{n:Nat}{x:zq}:∀{S:List zq} {i:Nat} (h:i<S.length),kp n x<kp n S[i]->qx n (S.set i x)<qx n S
 | [],i,h,_=>by simp at h
 |s::S,0,h,g=>by
  show kp n x+qx n S<kp n s+qx n S
  grind
 |s::S,i+1,h,g=>by
  show kp n s+qx n (S.set i x)<kp n s+qx n S;have:=Tu (S:=S) (i:=i) (by grind) g;omega
theorem qee{sup:List Int}{s:zq}{st J:List (Int×Int)}(h:ZT sup s st J true)(hJ:J.length<=8):kp sup.length ⟨true,J⟩<kp sup.length s:=by
 have hself:zL sup J J:=h.least J h.old h.up;unfold kp;rw[Xb rfl];dsimp only;by_cases g:s.seen=true
 ·rw[Xb g];have h1:=(RH (h.old g) hself).2 (h.more rfl g);have h2:=(h.old g).1
  grind
 ·rw[Xa g];have h1:=UZ hself;have h2:J.length*max sup.length 1+max sup.length 1*(8 - J.length)=8*max sup.length 1:=by
   rw[Nat.mul_comm J.length,<-Nat.mul_add,Nat.mul_comm 8];simp_all
  omega
theorem q02{m:za}{S:List zq}{af:List (Int×Int)}{n:Int}:onB m S af n=true↔(zx S n).seen=true/\zL (zy m.classes) af (zx S n).stack:=by
 unfold onB;rw[Xt,IU]
theorem uS{m:za}{f pc:Int}{S:List zq}:kR m f S pc=true↔((zx S pc).seen=true->(zI m f pc (zx S pc).stack).err=0/\∀n ∈(zI m f pc (zx S pc).stack).next,(zx S n).seen=true/\zL (zy m.classes) (zI m f pc (zx S pc).stack).after (zx S n).stack):=by
 unfold kR goB;cases h:(zx S pc).seen
 ·simp
 ·rw[Bool.not_true,Bool.false_or,Xt,Xw,Xy];constructor
  ·intro g _;exact⟨g.1,fun n hn=>q02.mp (g.2 n hn)⟩
  ·intro g;obtain⟨g1,g2⟩:=g rfl;exact⟨g1,fun n hn=>q02.mpr (g2 n hn)⟩
theorem DD{m:za}{f:Int}{R:List zq}:vL m f R=true↔(0<R.length/\R.length=(zA m f).code.length/\(zx R 0).seen=true/\(zx R 0).stack=[])/\∀pc:Nat,pc<R.length->kR m f R (pc:Int)=true:=by
 unfold vL Ff
 grind
structure ZF(m:za)(f:Int)(S:List zq):Prop where
 len:S.length=(zA m f).code.length
 first:(zx S 0).seen=true/\(zx S 0).stack=[]
 self:∀s ∈S,zL (zy m.classes) s.stack s.stack
 small:∀s ∈S,s.stack.length<=8
 low:∀R,vL m f R=true->∀i:Nat,i<S.length->(zx S i).seen=true->(zx R i).seen=true/\zL (zy m.classes) (zx S i).stack (zx R i).stack
theorem eF{S:List zq}{i:Nat}(hi:i<S.length):zx S (i:Int) ∈S:=by
 grind [bS,Xd]
theorem ZF.right{m:za}{f:Int}{S R:List zq}(hm:zP m)(h:ZF m f S)(hR:vL m f R=true){pc:Nat}(hp:pc<S.length)(hs:(zx S pc).seen=true):
  (zI m f pc (zx S pc).stack).err=0/\∀n ∈(zI m f pc (zx S pc).stack).next,(zx R n).seen=true/\zL (zy m.classes) (zI m f pc (zx S pc).stack).after (zx R n).stack:=by
 obtain⟨h1,h2⟩:=h.low R hR pc hp hs;obtain⟨⟨_,hl,_⟩,hall⟩:=DD.mp hR;have hpR:pc<R.length:=by rw[hl,<-h.len];exact hp
 obtain⟨g1,g2⟩:=uS.mp (hall pc hpR) h1;obtain⟨e1,e2,e3⟩:=Iz hm h2 g1;exact⟨e1,fun n hn=>by
  rw[e2]at hn;obtain⟨a1,a2⟩:=g2 n hn;exact⟨a1,e3.trans' a2⟩⟩
theorem ZF.none_err{m:za}{f:Int}{S:List zq}(hm:zP m)(h:ZF m f S){pc:Nat}(hp:pc<S.length)(hs:(zx S pc).seen=true)(he:¬(zI m f pc (zx S pc).stack).err=0):∀R,vL m f R=false:=fun R=>by
 rw[X6];intro hR;exact he (h.right hm hR hp hs).1
theorem ZF.none_come{m:za}{f:Int}{S:List zq}(hm:zP m)(h:ZF m f S){pc q:Nat}(hp:pc<S.length)(hq:q<S.length)(hs:(zx S pc).seen=true)(hn:(q:Int) ∈(zI m f pc (zx S pc).stack).next)
  (hb:mH (zy m.classes) (zx S q) (zI m f pc (zx S pc).stack).after):∀R,vL m f R=false:=fun R=>by
 rw[X6];intro hR;have h2:=(h.low R hR q hq hb.1).2;exact hb.2 _ h2 ((h.right hm hR hp hs).2 _ hn).2
theorem ZF.put{m:za}{f:Int}{S:List zq}(hm:zP m)(h:ZF m f S){pc q:Nat}{J:List (Int×Int)}{gr:Bool}(hp:pc<S.length)(hq:q<S.length)(hs:(zx S pc).seen=true)(hn:(q:Int) ∈(zI m f pc (zx S pc).stack).next)
  (hc:ZT (zy m.classes) (zx S q) (zI m f pc (zx S pc).stack).after J gr) (h8:(zI m f pc (zx S pc).stack).after.length<=8):ZF m f (S.set q ⟨true,J⟩):=by
 have hset:∀i:Nat,zx (S.set q ⟨true,J⟩) (i:Int)=if i=q then⟨true,J⟩else zx S (i:Int):=fun i=>pQ hq
 have hJ:zL (zy m.classes) J J:=hc.least J hc.old hc.up;refine⟨by rw[XH];exact h.len,?_,fun s hs'=> ?_,fun s hs'=> ?_,fun R hR i hi hsi=> ?_⟩
 ·have h0:=hset 0;by_cases e:0=q
  ·rw[Xb e]at h0;have hz:=hc.old (by rw[<-e];exact h.first.1);rw[<-e]at hz;have hl:=hz.1;have hf:(zx S ((0:Nat):Int)).stack=[]:=h.first.2
   grind
  ·rw[Xa e]at h0;have e2:zx (S.set q ⟨true,J⟩) 0=zx S 0:=h0;rw[e2];exact h.first
 ·rcases X8 hs' with g|g
  ·exact h.self s g
  grind
 ·rcases X8 hs' with g|g
  ·exact h.small s g
  ·rw[g];show J.length<=8;rw[<-hc.up.1];exact h8
 ·rw[XH]at hi;rw[hset]at hsi⊢
  by_cases e:i=q
  ·rw[Xb e];subst e;obtain⟨a1,a2⟩:=(h.right hm hR hp hs).2 _ hn;exact⟨a1,hc.least _ (fun g=>(h.low R hR i hi g).2) a2⟩
  ·rw[Xa e]at hsi⊢
   exact h.low R hR i hi hsi
theorem qc6{m:za}{f:Int}{S:List zq}{p q:Nat}{J st:List (Int×Int)}{gr:Bool}(hq:q<S.length)(hpq:p≠q)(h:kR m f S (p:Int)=true)(hN:∀n ∈(zI m f p (zx S p).stack).next,0<=n)
  (hc:ZT (zy m.classes) (zx S q) st J gr):kR m f (S.set q ⟨true,J⟩) (p:Int)=true:=by
 have hset:∀i:Nat,zx (S.set q ⟨true,J⟩) (i:Int)=if i=q then⟨true,J⟩else zx S (i:Int):=fun i=>pQ hq
 rw[uS]at h⊢
 rw[hset,Xa hpq];intro hs;obtain⟨h1,h2⟩:=h hs;refine⟨h1,fun n hn=> ?_⟩;obtain⟨g1,g2⟩:=h2 n hn;obtain⟨k,rfl⟩:=Xj (hN n hn);rw[hset];by_cases e:k=q
 ·rw[Xb e];subst e;exact⟨rfl,g2.trans' (hc.old g1)⟩
 grind
theorem ZF.done{m:za}{f:Int}{S:List zq}(h:ZF m f S)(h0:0<S.length)(hd:∀pc:Nat,pc<S.length->kR m f S (pc:Int)=true):vL m f S=true:=DD.mpr ⟨⟨h0,h.len,h.first⟩,hd⟩
theorem qed{sup:List Int}{S:List zq}{q:Nat}{st J:List (Int×Int)}(hq:q<S.length)(hc:ZT sup (zx S q) st J false):S.set q ⟨true,J⟩=S:=by
 obtain⟨h1,h2⟩:=hc.same rfl;have e:(⟨true,J⟩:zq)=S[q]:=by
  rw[<-bS hq];have:zx S (q:Int)=⟨(zx S (q:Int)).seen,(zx S (q:Int)).stack⟩:=rfl;rw[this,h1,h2]
 simp_all
theorem KQ{m:za}{S:List zq}{q:Nat}{st J:List (Int×Int)}(hq:q<S.length)(hc:ZT (zy m.classes) (zx S q) st J true)(h8:st.length<=8):qx (zy m.classes).length (S.set q ⟨true,J⟩)<qx (zy m.classes).length S:=
 Tu hq (by
  rw[<-bS hq];exact qee hc (by rw[<-hc.up.1];exact h8))
def Bl(sup:List Int)(S R:List zq):Bool:=decide (S.length=R.length)&& (List.range S.length).all fun i=> !(zx S (i:Int)).seen||((zx R (i:Int)).seen&& wJ sup (zx S (i:Int)).stack (zx R (i:Int)).stack)
theorem KD{sup:List Int}{S R:List zq}:Bl sup S R=true↔S.length=R.length/\∀i:Nat,i<S.length->(zx S i).seen=true->(zx R i).seen=true/\zL sup (zx S i).stack (zx R i).stack:=by
 unfold Bl;rw[Xt,Xw,D8];constructor
 ·rintro⟨h1,h2⟩;refine⟨h1,fun i hi hs=> ?_⟩;have:=h2 i hi;rw[hs,Bool.not_true,Bool.false_or,Xt,IU]at this;exact this
 ·rintro⟨h1,h2⟩;refine⟨h1,fun i hi=> ?_⟩;cases hs:(zx S (i:Int)).seen
  ·rfl
  ·obtain⟨g1,g2⟩:=h2 i hi hs;rw[g1,IU.mpr g2];rfl
theorem ZF.over{m:za}{f:Int}{S R:List zq}(h:ZF m f S)(hR:vL m f R=true):Bl (zy m.classes) S R=true:=by
 rw[KD];refine⟨?_,fun i hi hs=>h.low R hR i hi hs⟩;rw[h.len,(DD.mp hR).1.2.1]
def overB(sup:List Int)(a b:List (List zq)):Bool:=decide (a.length=b.length)&& (List.range a.length).all fun f=>Bl sup (a[f]?.getD []) (b[f]?.getD [])
theorem RG{m:za}{a:List (List zq)}:bW m a=true↔a.length=m.methods.length/\∀f,f<a.length->vL m (f:Int) (a[f]?.getD [])=true:=by
 unfold bW
 grind
structure q10(m:za)(a:List (List zq)):Prop where
 right:bW m a=true
 least:∀b,bW m b=true->overB (zy m.classes) a b=true
 small:∀S ∈a,∀s ∈S,s.stack.length<=8
theorem q10.self{m:za}{a:List (List zq)}(h:q10 m a):overB (zy m.classes) a a=true:=h.least a h.right
structure Yx(m:za)(f:Int)(S:List zq):Prop where
 right:vL m f S=true
 least:∀R,vL m f R=true->Bl (zy m.classes) S R=true
 small:∀s ∈S,s.stack.length<=8
 flat:∀s ∈S,ku s.stack/\(s.seen=false->s.stack=[])
theorem PS{m:za}{f:Nat}(hf:f<m.methods.length)(h:∀R,vL m (f:Int) R=false):∀a,bW m a=false:=fun a=>by
 rw[X6];intro ha;obtain⟨h1,h2⟩:=RG.mp ha
 grind
theorem TR{m:za}{f:Int}{n:Nat}(hn:(zA m f).code.length=n+1):ZF m f (⟨true,[]⟩::List.replicate n (⟨false,[]⟩:zq)):=by
 refine⟨by grind,⟨rfl,rfl⟩,fun s hs=> ?_,fun s hs=> ?_,fun R hR i hi hs=> ?_⟩
 ·grind [WB]
 ·grind
 ·match i,hi,hs with
  |0,_,_=>
   obtain⟨⟨_,_,h1,h2⟩,_⟩:=DD.mp hR;refine⟨h1,?_⟩;have e:(zx R ((0:Nat):Int)).stack=[]:=h2;rw[e];exact WB _
  |i+1,hi,hs=>
   rw[bS hi]at hs
   grind
