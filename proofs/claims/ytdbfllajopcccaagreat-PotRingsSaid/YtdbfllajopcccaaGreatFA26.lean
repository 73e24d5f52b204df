import Derived.Test.YtdbfllajopcccaaGreatFA19
namespace Go.Proofs.YtdbfllajopcccaaGreat
set_option maxRecDepth 100000
set_option linter.unusedVariables false
set_option linter.unusedSimpArgs false
open Go.ChangeShapes Go.WideShapes Go.ChangeAt Go.RowKit
def sqV(n:Nat)(G:List Nat):List Value:=(G.map fun g=>Value.slice (some ⟨g,0,none⟩) n n)++List.replicate (n - G.length) (Value.slice none 0 0)
structure qK(w:World)(gO n:Nat)(G:List Nat)(W:List (List Bool)):Prop where
 blk:zf w gO (sqV n G) 66
 len:G.length=W.length
 rows:∀(i:Nat) g r,G[i]? =some g→W[i]? =some r→zf w g (r.map Value.bool) 4∧r.length=n
 diff:G.Nodup
 apart:∀g ∈G,¬g=gO
theorem qK.keep{w w':World}{gO n:Nat}{G:List Nat}{W:List (List Bool)}(h:qK w gO n G W)(hb:Below w.heap.size w w'):qK w' gO n G W:=
 ⟨h.blk.keep hb h.blk.lt,h.len,fun i g r hg hr=>⟨(h.rows i g r hg hr).1.keep hb (h.rows i g r hg hr).1.lt,(h.rows i g r hg hr).2⟩,h.diff,h.apart⟩
theorem zf.other{w:World}{g:Nat}{vs:List Value}{T:TypeId}(h:zf w g vs T){p:Addr}(v:Value)(hp:¬p.block=g):zf (w.setCell p v) g vs T:=by
 unfold zf at h⊢
 rw[heap_setCell_other w p g v (fun e=>hp e.symm)];exact h
theorem qK.row_at{w:World}{gO n i:Nat}{G:List Nat}{W:List (List Bool)}(h:qK w gO n G W)(hi:i<G.length):w.cell? ⟨gO,i,none⟩=some (.slice (some ⟨G[i],0,none⟩) n n):=
 h.blk.cells _ _ (by
  unfold sqV;rw[List.getElem?_append_left (by rw[List.length_map];exact hi),List.getElem?_map,List.getElem?_eq_getElem hi];rfl)
theorem qK.row_in{w:World}{gO n i:Nat}{G:List Nat}{W:List (List Bool)}(h:qK w gO n G W)(hi:i<G.length):zf w G[i] ((W[i]?.getD []).map Value.bool) 4∧(W[i]?.getD []).length=n:=by
 have hw:i<W.length:=by rw[←h.len];exact hi
 rw[List.getElem?_eq_getElem hw,Option.getD_some];exact h.rows i G[i] W[i] (List.getElem?_eq_getElem hi) (List.getElem?_eq_getElem hw)
theorem qK.bit_at{w:World}{gO n i j:Nat}{G:List Nat}{W:List (List Bool)}(h:qK w gO n G W)(hi:i<G.length)(hj:j<n):w.cell? ⟨G[i],j,none⟩=some (.bool (qp W i j)):=by
 obtain⟨h1,h2⟩:=h.row_in hi;refine h1.cells _ _ ?_;unfold qp
 rw[List.getElem?_map,List.getElem?_eq_getElem (by omega),Option.getD_some];rfl
theorem qK.set{w:World}{gO n i j:Nat}{G:List Nat}{W:List (List Bool)}(h:qK w gO n G W)(hi:i<G.length)(b:Bool):qK (w.setCell ⟨G[i],j,none⟩ (.bool b)) gO n G (vX W i j b):=by
 obtain⟨h1,h2⟩:=h.row_in hi;refine⟨h.blk.other _ (h.apart _ (List.getElem_mem hi)),by unfold vX;rw[List.length_set];exact h.len,fun k g r hg hr=> ?_,h.diff,h.apart⟩;unfold vX at hr;rw[List.getElem?_set]at hr;by_cases hk:i=k
 ·subst hk;have hw:i<W.length:=by rw[←h.len];exact hi
  rw[if_pos rfl,if_pos hw]at hr;injection hr with hr;subst hr;rw[List.getElem?_eq_getElem hi]at hg;injection hg with hg;subst hg;refine⟨?_,by rw[List.length_set];exact h2⟩;rw[List.map_set];exact h1.set j _
 ·rw[if_neg hk]at hr;obtain⟨h3,h4⟩:=h.rows k g r hg hr;refine⟨h3.other _ (fun e=>hk ?_),h4⟩;have e1:G[i]? =G[k]? :=by rw[hg,List.getElem?_eq_getElem hi];exact congrArg some e
  exact(List.getElem?_inj hi h.diff).mp e1
theorem qK.add{w:World}{gO n g:Nat}{G:List Nat}{W:List (List Bool)}{r:List Bool}(h:qK w gO n G W)(hn:G.length<n)(hr:r.length=n)(hg:zf w g (r.map Value.bool) 4)(hG:∀x ∈G,¬x=g)(hO:¬g=gO):
  qK (w.setCell ⟨gO,G.length,none⟩ (.slice (some ⟨g,0,none⟩) n n)) gO n (G++[g]) (W++[r]):=by
 refine⟨?_,by rw[List.length_append,List.length_append,h.len];rfl,fun k x y hx hy=> ?_,?_,fun x hx=> ?_⟩
 ·have e:sqV n (G++[g])=(sqV n G).set G.length (.slice (some ⟨g,0,none⟩) n n):=by
   unfold sqV;obtain⟨d,hd⟩:∃d,n - G.length=d+1:=⟨n - G.length - 1,by omega⟩
   rw[List.length_append,List.map_append,hd,show n - (G.length+[g].length)=d by simp;omega,List.set_append_right (h:=by rw[List.length_map];exact zn _),List.length_map,Nat.sub_self,List.replicate_succ,List.set_cons_zero,List.append_assoc];rfl
  rw[e];exact h.blk.set _ _
 ·rcases Nat.lt_or_ge k G.length with q|q
  ·rw[List.getElem?_append_left q]at hx;rw[List.getElem?_append_left (by rw[←h.len];exact q)]at hy;obtain⟨h3,h4⟩:=h.rows k x y hx hy;exact⟨h3.other _ (fun e=>h.apart x (List.mem_of_getElem? hx) e.symm),h4⟩
  ·rw[List.getElem?_append_right q]at hx;have hz:k - G.length=0:=by
    rcases Nat.eq_zero_or_pos (k - G.length)with z|z
    ·exact z
    ·rw[List.getElem?_eq_none (by simp;omega)]at hx;cases hx
   rw[hz]at hx;simp at hx;subst hx;rw[List.getElem?_append_right (by rw[←h.len];exact q),←h.len,hz]at hy;simp at hy;subst hy;exact⟨hg.other _ (fun e=>hO e.symm),hr⟩
 ·rw[List.nodup_append];exact⟨h.diff,by simp,fun a ha b hb=>by simp at hb;subst hb;exact hG a ha⟩
 ·rcases List.mem_append.mp hx with q|q
  ·exact h.apart x q
  ·simp at q;subst q;exact hO
theorem qmd:(Tryz.prog.info? 4).map (fun i=>(i.zero,i.size,i.bytes))=some (some (.bool false),1,1):=by kernel_rfl
theorem qi7:(Tryz.prog.info? 66).map (fun i=>(i.zero,i.size,i.bytes))=some (some (.slice none 0 0),1,24):=by kernel_rfl
theorem qK.hole_at{w:World}{gO n k:Nat}{G:List Nat}{W:List (List Bool)}(h:qK w gO n G W)(hk:G.length=k)(hi:k<n):w.cell? ⟨gO,k,none⟩=some (.slice none 0 0):=
 h.blk.cells _ _ (by
  subst hk;unfold sqV;rw[List.getElem?_append_right (by rw[List.length_map];exact zn _),List.length_map,Nat.sub_self,List.getElem?_replicate,if_pos (by omega)])
theorem qK.nil{w:World}{gO n:Nat}(h:zf w gO (List.replicate n (.slice none 0 0)) 66):qK w gO n [] []:=
 ⟨by simpa[sqV]using h,rfl,fun i g r hg=>by simp at hg,by simp,fun g hg=>by simp at hg⟩
theorem qK.row_get{w:World}{gO n i g:Nat}{G:List Nat}{W:List (List Bool)}(h:qK w gO n G W)(hg:G[i]? =some g):w.cell? ⟨gO,i,none⟩=some (.slice (some ⟨g,0,none⟩) n n):=by
 obtain⟨hi,rfl⟩:=List.getElem?_eq_some_iff.mp hg;exact h.row_at hi
theorem qK.bit_get{w:World}{gO n i j g:Nat}{G:List Nat}{W:List (List Bool)}(h:qK w gO n G W)(hg:G[i]? =some g)(hj:j<n):w.cell? ⟨g,j,none⟩=some (.bool (qp W i j)):=by
 obtain⟨hi,rfl⟩:=List.getElem?_eq_some_iff.mp hg;exact h.bit_at hi hj
theorem qK.free_get{w:World}{gO n i g:Nat}{G:List Nat}{W:List (List Bool)}(h:qK w gO n G W)(hg:G[i]? =some g)(j:Nat):w.frozen? ⟨g,j,none⟩=false:=by
 obtain⟨hi,rfl⟩:=List.getElem?_eq_some_iff.mp hg;exact(h.row_in hi).1.free j
theorem qK.set_get{w:World}{gO n i j g:Nat}{G:List Nat}{W:List (List Bool)}(h:qK w gO n G W)(hg:G[i]? =some g)(b:Bool):qK (w.setCell ⟨g,j,none⟩ (.bool b)) gO n G (vX W i j b):=by
 obtain⟨hi,rfl⟩:=List.getElem?_eq_some_iff.mp hg;exact h.set hi b
theorem qK.lt{w:World}{gO n:Nat}{G:List Nat}{W:List (List Bool)}(h:qK w gO n G W):∀g ∈G,g<w.heap.size:=fun g hg=>by
 obtain⟨i,hi,rfl⟩:=List.getElem_of_mem hg;exact(h.row_in hi).1.lt
theorem qpw{i j i' j':Nat}{W:List (List Bool)}(hl:i<W.length)(hr:j<(W[i]?.getD []).length)(b:Bool):qp (vX W i j b) i' j'=if i'=i∧j'=j then b else qp W i' j':=by
 unfold qp vX;rw[List.getElem?_set];by_cases hii:i=i'
 ·subst hii;rw[if_pos rfl,if_pos hl,Option.getD_some,List.getElem?_set];by_cases hjj:j=j'
  ·subst hjj;rw[if_pos rfl,if_pos hr,if_pos ⟨rfl,rfl⟩];rfl
  ·rw[if_neg hjj,if_neg (fun q=>hjj q.2.symm)]
 ·rw[if_neg hii,if_neg (fun q=>hii q.1.symm)]
def Qa(EL:List (List Int))(n k:Nat)(L:List Int)(q:Nat)(X:List (List Bool)):Prop:=∀a b:Nat,a<k+1→b<n→(qp X a b=true↔((a<k∧vR EL a b)∨(a=k∧(b:Int) ∈L.take q)))
theorem Qa.start{EL:List (List Int)}{n k:Nat}{L:List Int}{W:List (List Bool)}(hk:W.length=k)(h:∀a b:Nat,a<k→b<n→(qp W a b=true↔vR EL a b)):Qa EL n k L 0 (W++[List.replicate n false]):=fun a b ha hb=>by
 rcases Nat.lt_or_ge a k with q|q
 ·have e:qp (W++[List.replicate n false]) a b=qp W a b:=by unfold qp;rw[List.getElem?_append_left (by omega)]
  rw[e,h a b q hb];exact⟨fun x=> .inl ⟨q,x⟩,fun x=>by rcases x with⟨_,x⟩|⟨x,_⟩;exact x;omega⟩
 ·obtain rfl:a=k:=by omega
  have e:qp (W++[List.replicate n false]) a b=false:=by
   unfold qp
   rw[List.getElem?_append_right (by omega),hk,Nat.sub_self];simp[List.getElem?_replicate,hb]
  rw[e];simp
theorem Qa.no{EL:List (List Int)}{n k q:Nat}{L:List Int}{X:List (List Bool)}{u:Int}(h:Qa EL n k L q X)(hu:L[q]? =some u)(hn:u<0∨(n:Int)≤u):Qa EL n k L (q+1) X:=fun a b ha hb=>by
 rw[h a b ha hb,List.take_add_one,hu];have:¬(b:Int)=u:=by omega
 simp[this]
theorem Qa.yes{EL:List (List Int)}{n k q U:Nat}{L:List Int}{X:List (List Bool)}(h:Qa EL n k L q X)(hu:L[q]? =some (U:Int))(hl:k<X.length)(hr:U<(X[k]?.getD []).length):Qa EL n k L (q+1) (vX X k U true):=fun a b ha hb=>by
 rw[qpw hl hr,List.take_add_one,hu];by_cases e:a=k∧b=U
 ·rw[if_pos e];simp[e.1,e.2]
 ·rw[if_neg e,h a b ha hb];by_cases ea:a=k
  ·have:¬(b:Int)=(U:Int):=fun q=>e ⟨ea,by omega⟩;simp[ea,this]
  ·simp[ea]
theorem Qa.end_{EL:List (List Int)}{n k:Nat}{L:List Int}{X:List (List Bool)}(h:Qa EL n k L L.length X)(hL:EL[k]?.getD []=L):∀a b:Nat,a<k+1→b<n→(qp X a b=true↔vR EL a b):=fun a b ha hb=>by
 rw[h a b ha hb,List.take_length];rcases Nat.lt_or_ge a k with q|q
 ·exact⟨fun x=>by rcases x with⟨_,x⟩|⟨x,_⟩;exact x;omega,fun x=> .inl ⟨q,x⟩⟩
 ·obtain rfl:a=k:=by omega
  unfold vR;rw[hL];exact⟨fun x=>by rcases x with⟨x,_⟩|⟨_,x⟩;omega;exact x,fun x=> .inr ⟨rfl,x⟩⟩
def qro(EL:List (List Int))(n:Nat)(w:World)(e:Ending)(w':World):Prop:=∃gO G W,e= .returned (.slice (some ⟨gO,0,none⟩) n n)∧Below w.heap.size w w'∧qK w' gO n G W∧G.length=n∧ZD EL n n W∧w.heap.size≤gO∧∀g ∈G,w.heap.size≤g
set_option maxHeartbeats 3200000 in
theorem qki(EL:List (List Int))(n:Nat)(A:Option Addr)(c:Nat)(w:World)(h:zd (qb zo 1) 1 w w.heap.size A c EL)(hn:EL.length=n)(hl:n≤1000):
  Calls Tryz.prog 20 #[.slice A n c] w (qro EL n w):=by
 obtain⟨i0,hi0,hz0,hz1,hz2⟩:=jg qi7;obtain⟨i1,hi1,hy0,hy1,hy2⟩:=jg qmd;have HE:=zH h;have HN:=zH hn;clear h hn;go_enter Tryz.func20,Tryz.ntmps20;go_upto_region 3 with(at_make;refine wpList_make_full _ rfl _ _ 62 rfl w.heap.size 66 i0 (.slice none 0 0) 1 Tryz.underlying62 hi0 hz0 hz1 .i64 .i64 _ _ n rfl rfl rfl rfl (by rw[hz2];omega) (by unfold maxLen;omega) (zn _) ?_;intro w2 hown hgrow;have HO2:=zH hown;have HB2:=zH ((zb w.heap.size w).grown hgrow (zn _) (fun k hk=>by cases hk));clear hown hgrow)
 have HQ2:Hid (qK w2 w.heap.size n [] []):=zH (qK.nil (by have h1:=YV HO2.out;rw[JF (v:= .slice none 0 0) rfl]at h1;exact h1));have HG2:Hid (w.heap.size<w2.heap.size):=zH (HQ2.out.blk.lt);clear HO2;go_wp2_with fail
 go_loopw [5] (fun i wr=>∃(k:Nat) (G:List Nat) (W:List (List Bool)),k≤n∧i= .int .i64 k∧Hid (G.length=k)∧Hid (qK wr w.heap.size n G W)∧Hid (Below w.heap.size w wr)∧Hid (∀g ∈G,w.heap.size≤g)∧Hid (∀a b:Nat,a<k→b<n→(qp W a b=true↔vR EL a b))) (fun i _=>n - (intOf i).toNat)
 case atStart=>exact⟨0,[],[],by omega,rfl,zH rfl,HQ2,HB2,zH (fun g h=>by simp at h),zH (fun a b h=>by omega)⟩
 case round=>
  obtain⟨k,G,W,hk,rfl,HL,HQ,HX,HG,HW⟩:=hrel;have hsz:=HX.out.size;by_cases hlt:k<n
  ·have hkE:k<EL.length:=by rw[HN.out];exact hlt
   obtain⟨adM,rfl,habM,A1,cL,r0,hsr⟩:=HE.out.row.at_ hkE;obtain⟨L,hL⟩:∃L,EL[k]=L:=⟨_,rfl⟩
   rw[hL]at r0 hsr;rw[Nat.mul_one]at r0;have HLE:Hid (EL[k]?.getD []=L):=zH (by rw[List.getElem?_eq_getElem hkE,Option.getD_some,hL]);have HSR:=zH hsr;have HR0:=zH r0;have hcL:=hsr.cap;have hle1:=hsr.le;clear hL r0 hsr hkE;go_upto_region 7 with(at_make;refine wpList_make_full _ rfl _ _ 66 rfl wr.heap.size 4 i1 (.bool false) 1 Tryz.underlying66 hi1 hy0 hy1 .i64 .i64 _ _ n rfl rfl rfl rfl (by rw[hy2];omega) (by unfold maxLen;omega) (zn _) ?_;intro w6 hown hgrow;have HO6:=zH hown;have HB6:=zH ((zb wr.heap.size wr).grown hgrow (zn _) (fun k hk=>by cases hk));have HQ6:=zH (HQ.out.keep HB6.out);have c0:=HQ6.out.hole_at HL.out hlt;have f0:=HQ6.out.blk.free k;clear hown hgrow)
   have HQ7:Hid (qK (w6.setCell ⟨w.heap.size,k,none⟩ (.slice (some ⟨wr.heap.size,0,none⟩) n n)) w.heap.size n (G++[wr.heap.size]) (W++[List.replicate n false])):=zH (by
    have h1:=HQ6.out.add (g:=wr.heap.size) (r:=List.replicate n false) (by rw[HL.out];exact hlt) (by simp) (by have h2:=YV HO6.out;rw[JF (v:= .bool false) rfl]at h2;rw[List.map_replicate];exact h2) (fun x hx e=>by have:=HQ.out.lt x hx;omega) (fun e=>by have:=HQ.out.blk.lt;omega);rw[HL.out]at h1;exact h1)
   have HX7:Hid (Below w.heap.size w (w6.setCell ⟨w.heap.size,k,none⟩ (.slice (some ⟨wr.heap.size,0,none⟩) n n))):=zH ((HX.out.trans (HB6.out.mono hsz)).setCell (p:=⟨w.heap.size,k,none⟩) (zn _) _);have HW7:=zH (Qa.start (L:=L) (by rw[←HQ.out.len];exact HL.out) HW.out);have HGk:Hid ((G++[wr.heap.size])[k]? =some wr.heap.size):=zH (by rw[List.getElem?_append_right (by rw[HL.out];exact zn _),HL.out,Nat.sub_self];rfl);clear c0 f0 HQ6 HO6 HB6 HQ HX HW;generalize w6.setCell ⟨w.heap.size,k,none⟩ (.slice (some ⟨wr.heap.size,0,none⟩) n n)=w7 at*
   generalize wr.heap.size=gN at*
   go_wp2_with fail
   go_loopw [6] (fun e wi=>∃(q:Nat) (X:List (List Bool)),q≤L.length∧e= .int .i64 q∧Hid (qK wi w.heap.size n (G++[gN]) X)∧Hid (Below w.heap.size w wi)∧Hid (Qa EL n k L q X)) (fun e _=>L.length - (intOf e).toNat)
   case atStart=>exact⟨0,_,by omega,rfl,HQ7,HX7,HW7⟩
   case round=>
    clear HQ7 HX7 HW7;obtain⟨q,X,hq,rfl,HQi,HXi,HWi⟩:=hrel;have e0:=(HXi.out.cell (p:=adM.add k) (by rw[zt];exact habM)).trans HR0.out;by_cases hql:q<L.length
    ·obtain⟨ad1,rfl,hab1,s0⟩:=HSR.out.row.at_ hql;obtain⟨u,hu⟩:∃u,L[q]=u:=⟨_,rfl⟩
     rw[hu,Nat.mul_one]at s0;have s1:=(HXi.out.cell (p:=ad1.add q) (by rw[zt];exact hab1)).trans s0;have HU:Hid (L[q]? =some u):=zH (by rw[List.getElem?_eq_getElem hql,hu]);clear hu s0;by_cases hu0:0≤u
     ·obtain⟨U,rfl⟩:=Int.eq_ofNat_of_zero_le hu0;have i2:(U:Int) ≥ 0:=hu0;by_cases hun:U<n
      ·have i3:(U:Int)<n:=by omega
       have c0:=HQi.out.row_get HGk.out;have b1:=HQi.out.bit_get HGk.out hun;have f1:=HQi.out.free_get HGk.out U;go_wp2_with fail
       go_region
       go_wp2_with fail
       go_roundw;case rel=>exact⟨q+1,vX X k U true,by omega,by go_num,zH ((HQi.out.set_get HGk.out true).keep (zb _ _).drew),zH (HXi.out.setCell (p:=⟨gN,U,none⟩) hsz _).drew,zH (HWi.out.yes HU.out (by rw[←HQi.out.len];exact(List.getElem?_eq_some_iff.mp HGk.out).1) (by rw[(HQi.out.row_in (List.getElem?_eq_some_iff.mp HGk.out).1).2];exact hun))⟩
       case measure=>simp[intOf];omega
      ·have i3:¬(U:Int)<n:=by omega
       go_wp2_with fail
       go_roundw;case rel=>exact⟨q+1,X,by omega,by go_num,HQi,HXi,zH (HWi.out.no HU.out (by omega))⟩
       case measure=>simp[intOf];omega
     ·have i2:¬u ≥ 0:=hu0;go_wp2_with fail
      go_roundw;case rel=>exact⟨q+1,X,by omega,by go_num,HQi,HXi,zH (HWi.out.no HU.out (by omega))⟩
      case measure=>simp[intOf];omega
    ·obtain rfl:q=L.length:=by omega
     go_wp2_with fail
     go_roundw;case rel=>exact⟨k+1,G++[gN],X,by omega,by go_num,zH (by rw[List.length_append,HL.out];rfl),HQi,HXi,zH (fun g hg=>by
      rcases List.mem_append.mp hg with x|x
      ·exact HG.out g x
      ·simp at x;subst x;exact hsz),zH (HWi.out.end_ HLE.out)⟩
     case measure=>simp[intOf];omega
  ·obtain rfl:n=k:=by omega
   have HWs:Hid (ZD EL n 0 W):=zH (ZD.first ⟨by rw[←HQ.out.len];exact HL.out,fun r hr=>by
    obtain⟨i,hi,rfl⟩:=List.getElem_of_mem hr;exact(HQ.out.rows i _ _ (List.getElem?_eq_getElem (by rw[HQ.out.len];exact hi)) (List.getElem?_eq_getElem hi)).2⟩ HW.out)
   clear HW;go_wp2_with fail
   go_loopw [7] (fun i wi=>∃(k:Nat) (X:List (List Bool)),k≤n∧i= .int .i64 k∧Hid (qK wi w.heap.size n G X)∧Hid (Below w.heap.size w wi)∧Hid (ZD EL n k X)) (fun i _=>n - (intOf i).toNat)
   case atStart=>exact⟨0,W,by omega,rfl,HQ,HX,HWs⟩
   case round=>
    clear HQ HX HWs hsz;obtain⟨k,W1,hk,rfl,HQ1,HX1,HW1⟩:=hrel;by_cases hlt:k<n
    ·go_wp2_with fail
     go_loopw [8] (fun i wi=>∃(a:Nat) (X:List (List Bool)),a≤n∧i= .int .i64 a∧Hid (qK wi w.heap.size n G X)∧Hid (Below w.heap.size w wi)∧Hid (ZP EL n k W1 X a 0)) (fun i _=>n - (intOf i).toNat)
     case atStart=>exact⟨0,W1,by omega,rfl,HQ1,HX1,zH HW1.out.start⟩
     case round=>
      clear HQ1 HX1;obtain⟨a,X,ha,rfl,HQ2,HX2,HM2⟩:=hrel;by_cases halt:a<n
      ·go_wp2_with fail
       go_loopw [9] (fun i wi=>∃(b:Nat) (Y:List (List Bool)),b≤n∧i= .int .i64 b∧Hid (qK wi w.heap.size n G Y)∧Hid (Below w.heap.size w wi)∧Hid (ZP EL n k W1 Y a b)) (fun i _=>n - (intOf i).toNat)
       case atStart=>exact⟨0,X,by omega,rfl,HQ2,HX2,HM2⟩
       case round=>
        clear HQ2 HX2 HM2;obtain⟨b,Y,hb,rfl,HQ3,HX3,HM3⟩:=hrel;by_cases hblt:b<n
        ·obtain⟨ga,hga0⟩:∃g,G[a]? =some g:=⟨_,List.getElem?_eq_getElem (by rw[HL.out];exact halt)⟩
         obtain⟨gk,hgk0⟩:∃g,G[k]? =some g:=⟨_,List.getElem?_eq_getElem (by rw[HL.out];exact hlt)⟩
         have hle:=HG.out ga (List.mem_of_getElem? hga0);have hga:=zH hga0;have r1:=HQ3.out.row_get hga0;have r2:=HQ3.out.row_get hgk0;have b1:=HQ3.out.bit_get hga0 hblt;have b2:=HQ3.out.bit_get hga0 hlt;have b3:=HQ3.out.bit_get hgk0 hblt;have f1:=HQ3.out.free_get hga0 b;clear hga0 hgk0;obtain⟨v1,e1⟩:∃v,qp Y a b=v:=⟨_,rfl⟩
         obtain⟨v2,e2⟩:∃v,qp Y a k=v:=⟨_,rfl⟩
         obtain⟨v3,e3⟩:∃v,qp Y k b=v:=⟨_,rfl⟩
         have HE1:=zH e1;have HE2:=zH e2;have HE3:=zH e3;rw[e1]at b1;rw[e2]at b2;rw[e3]at b3;clear e1 e2 e3;cases v1
         ·cases v2
          ·go_wp2_with fail
           go_region
           go_wp2_with fail
           go_roundw;case rel=>exact⟨b+1,vX Y a b false,by omega,by go_num,zH ((HQ3.out.set_get hga.out false).keep (zb _ _).drew),zH (HX3.out.setCell (p:=⟨ga,b,none⟩) hle _).drew,zH (by have h1:=HM3.out.step hlt halt hblt;rw[HE1.out,HE2.out]at h1;exact h1)⟩
           case measure=>simp[intOf];omega
          ·cases v3
           ·go_wp2_with fail
            go_region
            go_wp2_with fail
            go_roundw;case rel=>exact⟨b+1,vX Y a b false,by omega,by go_num,zH ((HQ3.out.set_get hga.out false).keep (zb _ _).drew),zH (HX3.out.setCell (p:=⟨ga,b,none⟩) hle _).drew,zH (by have h1:=HM3.out.step hlt halt hblt;rw[HE1.out,HE2.out,HE3.out]at h1;exact h1)⟩
            case measure=>simp[intOf];omega
           ·go_wp2_with fail
            go_region
            go_wp2_with fail
            go_roundw;case rel=>exact⟨b+1,vX Y a b true,by omega,by go_num,zH ((HQ3.out.set_get hga.out true).keep (zb _ _).drew),zH (HX3.out.setCell (p:=⟨ga,b,none⟩) hle _).drew,zH (by have h1:=HM3.out.step hlt halt hblt;rw[HE1.out,HE2.out,HE3.out]at h1;exact h1)⟩
            case measure=>simp[intOf];omega
         ·go_wp2_with fail
          go_region
          go_wp2_with fail
          go_roundw;case rel=>exact⟨b+1,vX Y a b true,by omega,by go_num,zH ((HQ3.out.set_get hga.out true).keep (zb _ _).drew),zH (HX3.out.setCell (p:=⟨ga,b,none⟩) hle _).drew,zH (by have h1:=HM3.out.step hlt halt hblt;rw[HE1.out]at h1;exact h1)⟩
          case measure=>simp[intOf];omega
        ·obtain rfl:n=b:=by omega
         go_wp2_with fail
         go_roundw;case rel=>exact⟨a+1,Y,by omega,by go_num,HQ3,HX3,zH (HM3.out.next (zn _))⟩
         case measure=>simp[intOf];omega
      ·obtain rfl:n=a:=by omega
       go_wp2_with fail
       go_roundw;case rel=>exact⟨k+1,X,by omega,by go_num,HQ2,HX2,zH (ZP.end_ HW1.out HM2.out hlt (zn _))⟩
       case measure=>simp[intOf];omega
    ·obtain rfl:n=k:=by omega
     go_wp2_with fail
     go_ret;exact⟨w.heap.size,G,W1,rfl,HX1.out,HQ1.out,HL.out,HW1.out,zn _,HG.out⟩
end Go.Proofs.YtdbfllajopcccaaGreat
