import Derived.Test.YtnfeiginmngknaaGreatFZ32
namespace Go.Proofs.YtnfeiginmngknaaGreat
set_option maxRecDepth 100000
set_option linter.unusedVariables false
set_option linter.unusedSimpArgs false
open Go.ChangeShapes Go.WideShapes Go.ChangeAt Go.RowKit
theorem R7:(Tryz.prog.info? 81).map (fun i=>(i.zero,i.size,i.bytes))=some (some (.agg #[.bool false,.slice none 0 0]),2,32):=by kernel_rfl
theorem PW(n:Nat):(madeCells (Value.agg #[.bool false,.slice none 0 0]).cells (n*2)).toList=Vd (List.replicate n ⟨false,none,0,[]⟩):=by
 refine List.ext_getElem? fun i=> ?_;by_cases hi:i<n*2
 ·have h1:(madeCells (Value.agg #[.bool false,.slice none 0 0]).cells (n*2)).toList[i]? =some ((#[Value.bool false,Value.slice none 0 0]:Array Value)[i % 2]!):=by
   unfold madeCells;rw[Array.getElem?_toList,Array.getElem?_map,Array.getElem?_range,Xb hi];rfl
  rw[h1];have hr:(List.replicate n (⟨false,none,0,[]⟩:zg))[i / 2]? =some ⟨false,none,0,[]⟩:=by rw[List.getElem?_replicate,Xb (by omega)]
  have h2:=YP (f:=VJ) (k:=2) (fun _=>rfl) (List.replicate n ⟨false,none,0,[]⟩) (i / 2) (i % 2) ⟨false,none,0,[]⟩ hr (Nat.mod_lt _ (by decide));have h3:i / 2*2+i % 2=i:=by omega
  rcases Nat.mod_two_eq_zero_or_one i with e|e
  ·rw[e]at h2;rw[e];rw[show i / 2*2+0=i by omega]at h2;exact h2.symm
  ·rw[e]at h2;rw[e];rw[show i / 2*2+1=i by omega]at h2;exact h2.symm
 ·rw[XE (by rw[Array.length_toList,size_madeCells];omega),XE (by rw[qg1,List.length_replicate];omega)]
theorem UO{c:Prop}[Decidable c]{s t:zq}(h1:s.seen=true)(h2:t.seen=true):(if c then s else t).seen=true:=by
 by_cases g:c
 ·rw[Xb g];exact h1
 ·rw[Xa g];exact h2
theorem UW{m:za}{h:zh}{k n k' n':Int}{w0 w1 w:World}{r:Int×Int}(HI:Hid (zr w0 w0.heap.size h m))(HX:Hid (Below w0.heap.size w0 w1))(HW:Hid (Below w1.heap.size w1 w))(HN:Hid (m.classes.length<=1000))(HR:Hid (qu (zy m.classes) k n k' n'=r)):
  Calls Tryz.prog 93 #[.slice h.A0 m.classes.length h.c0,zF k n,zF k' n'] w fun e w'=>e= .returned (zF r.1 r.2)/\Below w.heap.size w w':=by
 have H:=qbu (zy m.classes) k n k' n' h.A0 h.c0 w.heap.size w (by rw[kE];have:=HN.out;omega) (zn _) (eB (HI.out.now (zD HX HW)).classes.row);rw[HR.out,kE]at H;exact H
theorem UQ{L M:List (Int×Int)}{A A':Option Addr}{c c' n n':Nat}{w:World}{r:Bool}(H1:Hid (zd zf 2 w w.heap.size A c L))(H2:Hid (zd zf 2 w w.heap.size A' c' M))(h1:L.length=n)(h2:M.length=n')(HR:Hid (decide (L=M)=r)):
  Calls Tryz.prog 28 #[.slice A n c,.slice A' n' c'] w fun e w'=>e= .returned (.bool r)/\Below w.heap.size w w':=by
 subst h1 h2;have H:=Ii L M A A' c c' w.heap.size w (zn _) H1.out H2.out;rw[HR.out]at H;exact H
theorem qh5{w:World}{g:Nat}{x y:Int}(hg:g<w.heap.size)(h0:w.cell? ⟨g,0,none⟩=some (.int .i64 x))(h1:w.cell? ⟨g,1,none⟩=some (.int .i64 y)):zw w w.heap.size (some ⟨g,0,none⟩) (zN [(x,y)]):=YQ (JT hg h0 h1).row
theorem TA{w:World}{base g n:Nat}{xs:List Value}{T:TypeId}(h:w.ownsRow base T 2 (.slice (some ⟨g,0,none⟩) n n) n xs):zm w g xs T:=by
 obtain⟨h0,h1⟩:=h;rcases h1 with⟨h1,_⟩|⟨g',cap,cur,h1,_,hh,_,_,hs,hx⟩
 ·cases h1
 ·injection h1 with e1 e2 e3;simp at e1;subst e1 e3;have hc:cur.toList=xs:=by rw[<-hx,XA (by rw[Array.length_toList,hs];exact zn _)]
  unfold zm;rw[hh,<-hc]
theorem TE{w:World}{g n:Nat}{X:List zg}(h:qJ w g (⟨false,none,0,[]⟩::X)):qJ (w.setCell ⟨g,0,none⟩ (.bool true)) g (⟨true,none,0,[]⟩::X):=by
 have hz:(w.setCell ⟨g,0,none⟩ (.bool true)).heap.size=w.heap.size:=by simp
 refine⟨h.blk.set 0 _,fun y hy=> ?_⟩;rcases XZ.mp hy with q|q
 ·rw[q];exact va
 ·have hs:=h.row y (XY _ q);exact pM hs (by rw[hz];exact zn _) (fun p hp=>World.cell?_setCell_far _ _ _ _ (fun e=>hp e.symm)) (fun j hj=>h.ty_apart hs hj)
theorem q8e{m:za}{f:Nat}{x:zl}{n:Nat}(hx:zA m (f:Int)=x)(hn:x.code.length=n+1):rR m f ((⟨true,none,0,[]⟩::List.replicate n (⟨false,none,0,[]⟩:zg)).map zg.shp):=by
 refine⟨by rw[hx,hn];simp,rfl,fun i hi h0 hs=> ?_,fun s hs=> ?_⟩
 ·exfalso;obtain⟨j,rfl⟩:∃j,i=j+1:=⟨i - 1,by omega⟩
  have hj:j<n:=by simp at hi;exact hi
  rw[mf (by simp;exact hj)]at hs;simp[zg.shp]at hs
 ·simp at hs;rcases hs with rfl|⟨_,rfl⟩<;>simp[zg.shp]
def aN(XS:List (Nat×List zg)):List Value:=XS.map fun p=> .slice (some ⟨p.1,0,none⟩) p.2.length p.2.length
structure YB(w:World)(v:Value)(XS:List (Nat×List zg)):Prop where
 outs:∀p ∈XS,qJ w p.1 p.2
 apart:∀p ∈XS,¬v.ownBlock=some p.1
 diff:(XS.map Prod.fst).Nodup
 dry:Dry w v
theorem YB.nil(w:World)(T:TypeId):YB (w.alloc (.cells #[] T)) (.slice (some ⟨w.heap.size,0,none⟩) 0 0) []:=
 ⟨(by grind),(by grind),by simp,qe0 w T⟩
theorem YB.below{w w':World}{v:Value}{XS:List (Nat×List zg)}(h:YB w v XS)(hv:∀g,v.ownBlock=some g->g<w.heap.size)(hb:Below w.heap.size w w'):YB w' v XS:=
 ⟨fun p hp=>(h.outs p hp).keep hb,h.apart,h.diff,h.dry.below hv hb⟩
theorem qJ.grown{w w3:World}{v:Value}{g:Nat}{X:List zg}(h:qJ w g X)(hd:Dry w v)(ha:¬v.ownBlock=some g)(hg:w.grownBy w3 v.ownBlock):qJ w3 g X:=by
 have hlt:=h.blk.lt;refine⟨?_,fun x hx=> ?_⟩
 ·have hb:=h.blk;unfold zm at hb⊢
  rw[hg.block g hlt (fun e=>ha e.symm)];exact hb
 ·have hs:=h.row x hx;refine⟨hs.le,hs.cap,fun i t hi=> ?_⟩;obtain⟨ad,e,hb,h0,h1⟩:=hs.row i t hi;have hn:¬some ad.block=v.ownBlock:=fun q=>hd ad.block q.symm (ad.add (i*2)) (zC _ _) _ _ h0;have hk:∀q:Addr,q.block=ad.block->w3.cell? q=w.cell? q:=fun q hq=>XU (by rw[hq];exact hg.block _ hb hn);exact⟨ad,e,Xp hb hg.size,(by grind [zC]),(by grind [zC])⟩
theorem YB.snoc{w w3:World}{v:Value}{XS:List (Nat×List zg)}{g g9 n k:Nat}{X:List zg}(h:YB w v XS)(hX:qJ w g X)(hg0:∀p ∈XS,p.1<g)(hgv:∀b,v.ownBlock=some b->b<g)
  (hg:w.grownBy w3 v.ownBlock) (hor:v.ownBlock=some g9\/w.heap.size<=g9) (hd:Dry w3 (.slice (some ⟨g9,0,none⟩) n k)):YB w3 (.slice (some ⟨g9,0,none⟩) n k) (XS++[(g,X)]):=by
 have hgn:¬v.ownBlock=some g:=(by grind)
 refine⟨fun p hp=> ?_,fun p hp e=> ?_,?_,hd⟩
 ·rcases Xu.mp hp with q|q
  ·exact(h.outs p q).grown h.dry (h.apart p q) hg
  ·simp at q;subst q;exact hX.grown h.dry hgn hg
 ·simp[Value.ownBlock]at e;have hlt:p.1<w.heap.size:=by
   rcases Xu.mp hp with q|q
   ·exact(h.outs p q).blk.lt
   ·simp at q;subst q;exact hX.blk.lt
  rcases hor with o|o
  ·rcases Xu.mp hp with q|q
   ·exact h.apart p q (by rw[o,e])
   grind
  ·omega
 ·rw[Wc,List.nodup_append];refine⟨h.diff,by simp,fun a ha b hb=> ?_⟩
  grind
theorem P9:(Tryz.prog.info? 79).map (fun i=>(i.zero,i.size,i.bytes))=some (some (.slice none 0 0),1,24):=by kernel_rfl
