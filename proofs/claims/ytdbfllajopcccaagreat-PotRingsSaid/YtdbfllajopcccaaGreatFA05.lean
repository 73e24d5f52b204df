import Derived.Test.YtdbfllajopcccaaGreatFA03
namespace Go.Proofs.YtdbfllajopcccaaGreat
set_option maxRecDepth 100000
set_option linter.unusedVariables false
set_option linter.unusedSimpArgs false
open Go.ChangeShapes Go.WideShapes Go.ChangeAt Go.RowKit
open Go.Sort (Holds putRow)
theorem qbu{w:World}{B e c:Nat}{A:Option Addr}{xs ys:List Value}(h:w.ownsRow B e 1 (.slice A (xs++ys).length c) (xs++ys).length (xs++ys)):w.ownsRow B e 1 (.slice A xs.length c) xs.length xs:=by
 rcases h.2 with⟨hv,hn⟩|⟨g,cap,cur,hv,hb,hh,h1,h2,h3,h4⟩
 ·have:xs=[]:=by cases xs with
   |nil=>rfl
   |cons x l=>simp at hn
  subst this;injection hv with e1 e2 e3;subst e1 e3;exact World.ownsRow_nil _ _ _ _
 ·injection hv with e1 e2 e3;subst e1 e3;rw[List.length_append]at h1 h4;refine⟨by simp,.inr ⟨g,c,cur,rfl,hb,hh,by omega,h2,h3,?_⟩⟩;have:(cur.toList.take ((xs.length+ys.length)*1)).take xs.length=xs:=by rw[h4,List.take_left]
  rw[List.take_take,Nat.min_eq_left (by omega)]at this;rw[Nat.mul_one];exact this
theorem Yo{w:World}{B e n c:Nat}{A:Option Addr}{xs:List Value}(h:w.ownsRow B e 1 (.slice A n c) n xs)(hn:0<n):∃g,A=some ⟨g,0,none⟩∧n≤c∧c≤9223372036854775807∧g<w.heap.size∧B≤g:=by
 rcases h.2 with⟨_,h2⟩|⟨g,cap,cur,hv,hb,hh,h1,h2,_,_⟩
 ·omega
 ·injection hv with e1 e2 e3;subst e1 e3;exact⟨g,rfl,h1,by unfold maxLen at h2;omega,lt_of_block hh,hb⟩
theorem Yp{w:World}{B e n c:Nat}{g:Nat}{xs:List Value}(h:w.ownsRow B e 1 (.slice (some ⟨g,0,none⟩) n c) n xs){j:Nat}{x:Value}(hj:xs[j]? =some x):w.cell? ⟨g,j,none⟩=some x:=by
 obtain⟨hlt,rfl⟩:=List.getElem?_eq_some_iff.mp hj;exact qm0 (zz.of_own h) j hlt
theorem JI{l:List Nat}{j v:Nat}(h:l[j]? =some v):(qg l)[j]? =some (.int .i64 (v:Int)):=by
 unfold qg;rw[List.getElem?_map,h];rfl
theorem qol(l:List Nat):∀u ∈qg l,u.oneCell'=true:=fun u hu=>by
 obtain⟨k,_,rfl⟩:=List.mem_map.mp hu;rfl
theorem qlv(l:List Nat)(k:Nat):qg (l.drop k)=(qg l).drop k:=List.map_drop ..
theorem qbx(l m:List Nat):qg (l++m)=qg l++qg m:=List.map_append ..
def CopyN(L:List Nat)(w:World)(e:Ending)(w':World):Prop:=∃gi ci,e= .returned (.slice (some ⟨gi,0,none⟩) L.length ci)∧w.heap.size≤gi∧w'.ownsRow w.heap.size 3 1 (.slice (some ⟨gi,0,none⟩) L.length ci) L.length (qg L)∧Below w.heap.size w w'
theorem qgc(L:List Nat)(ad:Addr)(c B:Nat)(w:World)(h:zz w B (some ad) (qg L))(hB:B≤w.heap.size)(h0:0<L.length)(hl:L.length≤1048576):
  Calls Tryz.prog 135 #[.slice (some ad) L.length c] w (CopyN L w):=by
 have hq:=fun w=>Lib.run_eql_slice_nil (P:=Tryz.prog) w 26 3 (some ad) L.length c 0 0 Tryz.underlying26;obtain⟨ti,hti,ht0,ht1,ht2⟩:=info_parts kp;have HXE:Hid (Below w.heap.size w (w.alloc (.cells #[] 3))):=zH ((zb _ _).alloc (zn _) _);have HT:=zH (h.below_to HXE.out hB);clear h;go_enter Tryz.func135,Tryz.ntmps135;go_wp2_with(at_builtin;go_loud (refine ja rfl _ _ 26 rfl w.heap.size 3 ti (.int .i64 0) 1 8 Tryz.underlying26 hti ht0 ht1 ht2 rfl (by decide) _ 0 [] rfl (ka w 3 1) (some ad) L.length c _ (qg L) (by rw[JD];omega) rfl HT.out (qol _) (by unfold maxLen;omega) (by omega) (by simp) ?_);intro v6 w6 hown hgrow;have HX6:=zH (qA HXE.out (ka w 3 1) (by simp) hgrow);have HO6:Hid (w6.ownsRow w.heap.size 3 1 v6 L.length (qg L)):=zH (by simpa using hown);clear hown hgrow)
 go_ret;obtain⟨A,ca,rfl,_⟩:=q1x HO6.out;obtain⟨gi,rfl,_,_,_,hb⟩:=Yo HO6.out h0;exact⟨gi,ca,rfl,hb,HO6.out,HX6.out⟩
theorem qk6(L:List Nat)(B gi ci:Nat)(w:World)(h:w.ownsRow B 3 1 (.slice (some ⟨gi,0,none⟩) L.length ci) L.length (qg L))(hl:L.length≤1048576):
  Calls Tryz.prog 107 #[.slice (some ⟨gi,0,none⟩) L.length ci] w fun e w'=>e= .returned (.tuple #[])∧w'.ownsRow B 3 1 (.slice (some ⟨gi,0,none⟩) L.length ci) L.length (qg (L.mergeSort fun x y=>decide (x≤y)))∧w.grownBy w' (some gi):=by
 rcases h.2 with⟨hv,_⟩|⟨g',cap,cur,hv,hbase,hb,h1,h2,h3,h4⟩
 ·cases hv
 injection hv with e1 e2 e3;injection e1 with e1;injection e1 with e1;subst e1 e3;have hz:(L.map (fun k:Nat=>(k:Int))).map (Value.int .i64)=qg L:=by rw[List.map_map];rfl
 have hH:Holds (Value.int .i64) w gi 0 (L.map (fun k:Nat=>(k:Int))).toArray:=holds_of_blockI hb (by rw[List.length_map,hz];simpa using h4);have hgl:gi<w.heap.size:=lt_of_block hb;have hc:=Any.slices_Sort_int q4i gi 0 ci (L.map (fun k:Nat=>(k:Int))) w hH hgl (by rw[List.length_map];omega);rw[List.length_map]at hc;have hs:(L.map (fun k:Nat=>(k:Int))).mergeSort (fun x y=>decide (x≤y))=(L.mergeSort fun x y=>decide (x≤y)).map (fun k:Nat=>(k:Int)):=
  (List.map_mergeSort (fun a _ b _=>by simp)).symm
 rw[hs]at hc;refine hc.mono ?_;rintro e w' ⟨rfl,nn,os,rfl⟩;refine⟨rfl,?_,grownBy_sortedI _⟩;have hsl:((L.mergeSort fun x y=>decide (x≤y)).map (fun k:Nat=>(k:Int))).length=(L.map (fun k:Nat=>(k:Int))).length:=by simp
 have q:=ownsRow_sortedI (n:=nn) (os:=os) (ss:=L.map (fun k:Nat=>(k:Int))) hsl hbase hb (by rw[List.length_map];exact h1) h2 h3;rw[List.length_map,List.map_map]at q;exact q
theorem qpz(L:List Nat):(L.mergeSort fun x y=>decide (x≤y)).Perm L∧(L.mergeSort fun x y=>decide (x≤y)).Pairwise (· ≤ ·):=
 ⟨List.mergeSort_perm L _,(List.pairwise_mergeSort (fun a b c h1 h2=>by simp at*;omega) (fun a b=>by simp;omega) L).imp (fun {a b} q=>by simpa using q)⟩
section
variable{w w':World}{B g n:Nat}{EL:List (List Int)}{S:Wk}{a:QO}{ρ:Nat→Nat}
theorem q0s.all{r:Nat}(q:q0s w B g EL n S a ρ r)(hr:8≤r)(h1:EL.length=n)(h2:0≤n)(h3:n≤1048576)(h4:∀l ∈EL,l.length≤1048576):zI w B g EL n S a ρ:=
 ⟨q.low,q.size,h1,h2,h3,q.edges,h4,q.blk (by omega),q.pl (by omega),q.bk (by omega),q.gn (by omega),q.way (by omega),q.opn (by omega),q.prt (by omega),q.pin (by omega),q.r0,q.r1,q.r2,q.r3,q.r4 (by omega),q.r5 (by omega),q.r6 (by omega)⟩
theorem zI.fresh(h:zI w B g EL n S a ρ)(hb:Below w.heap.size w w'){gi:Nat}(hg:w.heap.size≤gi):zI w' B g EL n S a (zU ρ gi 8):=
 (h.moveU (r:=8) (N:=gi) (qu.below hb) (.inr hg) (by decide) (by decide)).all (zn _) h.len h.n0 h.n1 h.el
theorem zI.sorted(h:zI w B g EL n S a ρ){gi:Nat}(hr:ρ gi=8)(hg:w.grownBy w' (some gi)):zI w' B g EL n S a ρ:=
 (h.moveS (r:=8) (qu.grown hg (fun b e=>by injection e with e;subst e;exact hr)) (by decide)).all (zn _) h.len h.n0 h.n1 h.el
theorem zI.settled(h:zI w B g EL n S a ρ){gi:Nat}(hr:ρ gi=8):zI w B g EL n S a (zU ρ gi 7):=by
 have hu:∀b,b<w.heap.size→ρ b≠8→zU ρ gi 7 b=ρ b:=fun b _ hb=>Zg _ _ (fun e=>by subst e;exact hb hr);obtain⟨h0,h1,h2,h3⟩:=h.roles;exact(h.move (r:=8) (ρ':=zU ρ gi 7) qu.refl hu (by decide) (by rw[hu g h0 (by rw[h.r0];decide)];exact h.r0) (by rw[hu _ h1 (by rw[h.r1];decide)];exact h.r1) (by rw[hu _ h2 (by rw[h.r2];decide)];exact h.r2) (by rw[hu _ h3 (by rw[h.r3];decide)];exact h.r3)).all (zn _) h.len h.n0 h.n1 h.el
theorem zI.opn_cut(h:zI w B g EL n S a ρ){O X:List Nat}(e:S.opn=O++X):zI (w.setCell ⟨g,6,none⟩ (.slice a.Ao O.length a.co)) B g EL n {S with opn:=O} a ρ:=by
 have ho:w.ownsRow B 3 1 (.slice a.Ao O.length a.co) O.length (qg O):=by
  have h1:=h.opn;rw[e,qbx,List.length_append]at h1;have:=qbu (xs:=qg O) (ys:=qg X) (c:=a.co) (A:=a.Ao) (by rw[List.length_append,JD,JD];exact h1);rw[JD]at this;exact this
 have hr:∀b,(Value.slice a.Ao O.length a.co).ownBlock=some b→ρ b=5:=fun b hb=>h.r5 b (by rw[←hb];cases a.Ao<;>rfl);have p:=h.moveS (r:=0) (qu.cell (a:=⟨g,6,none⟩) h.r0 (.slice a.Ao O.length a.co)) (by decide);exact⟨p.low,p.size,h.len,h.n0,h.n1,p.edges,h.el,by have:=zf.set h.blk 6 (.slice a.Ao O.length a.co);exact this,p.pl (by decide),p.bk (by decide),p.gn (by decide),p.way (by decide),ky ho (qu.cell (ρ:=ρ) (a:=⟨g,6,none⟩) h.r0 _) (fun b hb=>by rw[hr b hb];decide),p.prt (by decide),p.pin (by decide),p.r0,p.r1,p.r2,p.r3,p.r4 (by decide),hr,p.r6 (by decide)⟩
theorem zI.way_cut(h:zI w B g EL n S a ρ){O X:List Nat}(e:S.way=O++X):zI (w.setCell ⟨g,5,none⟩ (.slice a.Ay O.length a.cy)) B g EL n {S with way:=O} a ρ:=by
 have ho:w.ownsRow B 3 1 (.slice a.Ay O.length a.cy) O.length (qg O):=by
  have h1:=h.way;rw[e,qbx,List.length_append]at h1;have:=qbu (xs:=qg O) (ys:=qg X) (c:=a.cy) (A:=a.Ay) (by rw[List.length_append,JD,JD];exact h1);rw[JD]at this;exact this
 have hr:∀b,(Value.slice a.Ay O.length a.cy).ownBlock=some b→ρ b=4:=fun b hb=>h.r4 b (by rw[←hb];cases a.Ay<;>rfl);have p:=h.moveS (r:=0) (qu.cell (a:=⟨g,5,none⟩) h.r0 (.slice a.Ay O.length a.cy)) (by decide);exact⟨p.low,p.size,h.len,h.n0,h.n1,p.edges,h.el,by have:=zf.set h.blk 5 (.slice a.Ay O.length a.cy);exact this,p.pl (by decide),p.bk (by decide),p.gn (by decide),ky ho (qu.cell (ρ:=ρ) (a:=⟨g,5,none⟩) h.r0 _) (fun b hb=>by rw[hr b hb];decide),p.opn (by decide),p.prt (by decide),p.pin (by decide),p.r0,p.r1,p.r2,p.r3,hr,p.r5 (by decide),p.r6 (by decide)⟩
end
theorem qap{P:Prop}(h:P:=by
 have e:ofO n=none:=by unfold ofO;rw[if_neg];intro g;have:=JH.mp g;omega
 rw[e];clear e;go_enter Tryz.func49,Tryz.ntmps49;go_wp2_with fail
 have hz:=zf.new w [.int .i64 0,.bool true] 97;have k0:=hz.cells 0 _ rfl;have k1:=hz.cells 1 _ rfl;refine bodyPost_ret (v:=jH none) (by simp[results,Tryz.results49,go_sem,k0,k1]) rfl ⟨rfl,?_⟩;exact(zb w.heap.size w).alloc (zn _) _):P:=h
theorem of_any(n:Int)(w:World):Calls Tryz.prog 49 #[.int .i64 n] w fun e w'=>e= .returned (jH (ofO n))∧Below w.heap.size w w':=by
 by_cases h1:n≤ -4611686018427387904
 ·exact qap
 by_cases h2:n ≥ 4611686018427387904
 ·exact qap
 ·have e:ofO n=some n:=by unfold ofO;rw[if_pos];exact JH.mpr (by omega)
  rw[e];clear e;go_enter Tryz.func49,Tryz.ntmps49;go_wp2_with fail
  have hz:=zf.new w [.int .i64 n,.bool false] 97;have k0:=hz.cells 0 _ rfl;have k1:=hz.cells 1 _ rfl;refine bodyPost_ret (v:=jH (some n)) (by simp[results,Tryz.results49,go_sem,k0,k1]) rfl ⟨rfl,?_⟩;exact(zb w.heap.size w).alloc (zn _) _
theorem JS{n:Int}{r:Option Int}{w:World}(HR:Hid (ofO n=r)):Calls Tryz.prog 49 #[.int .i64 n] w fun e w'=>e= .returned (jH r)∧Below w.heap.size w w':=by
 have H:=of_any n w;rw[HR.out]at H;exact H
set_option maxHeartbeats 800000 in
theorem qo7(a b:Option Int)(ha:vS a)(hb:vS b)(w:World):Calls Tryz.prog 48 #[jH a,jH b] w fun e w'=>e= .returned (jH (Qv a b))∧Below w.heap.size w w':=by
 cases a with
 |none=>
  have e:Qv none b=none:=by cases b<;>rfl
  rw[e];show Calls Tryz.prog 48 #[.agg #[.int .i64 0,.bool true],.agg #[.int .i64 (b.getD 0),.bool b.isNone]] w _;generalize b.getD 0=y;generalize b.isNone=yb;go_enter Tryz.func48,Tryz.ntmps48;go_wp2_with fail
  have hz:=zf.at_ (w:=(w.alloc (.cells #[.int .i64 0,.bool true] 97)).alloc (.cells #[.int .i64 y,.bool yb] 97)) (N:=w.heap.size+1+1) (by simp) [.int .i64 0,.bool true] 97;have k0:=hz.cells 0 _ rfl;have k1:=hz.cells 1 _ rfl;refine bodyPost_ret (v:=jH none) (by simp[results,Tryz.results48,go_sem,k0,k1]) rfl ⟨rfl,?_⟩;exact(((zb w.heap.size w).alloc (zn _) _).alloc (by simp) _).alloc (by simp;omega) _
 |some x=>cases b with
  |none=>
   show Calls Tryz.prog 48 #[.agg #[.int .i64 x,.bool false],.agg #[.int .i64 0,.bool true]] w (fun e w'=>e= .returned (jH none)∧Below w.heap.size w w');go_enter Tryz.func48,Tryz.ntmps48;go_wp2_with fail
   have hz:=zf.at_ (w:=(w.alloc (.cells #[.int .i64 x,.bool false] 97)).alloc (.cells #[.int .i64 0,.bool true] 97)) (N:=w.heap.size+1+1) (by simp) [.int .i64 0,.bool true] 97;have k0:=hz.cells 0 _ rfl;have k1:=hz.cells 1 _ rfl;refine bodyPost_ret (v:=jH none) (by simp[results,Tryz.results48,go_sem,k0,k1]) rfl ⟨rfl,?_⟩;exact(((zb w.heap.size w).alloc (zn _) _).alloc (by simp) _).alloc (by simp;omega) _
  |some y=>
   have h1:=JH.mp (ha x rfl);have h2:=JH.mp (hb y rfl);have hw:IntKind.i64.wrap (x+y)=x+y:=IntWalk.i64_in _ (by omega);show Calls Tryz.prog 48 #[.agg #[.int .i64 x,.bool false],.agg #[.int .i64 y,.bool false]] w (fun e w'=>e= .returned (jH (ofO (x+y)))∧Below w.heap.size w w');obtain⟨r,hr⟩:∃r,ofO (x+y)=r:=⟨_,rfl⟩
   have HR:=zH hr;rw[hr];clear hr ha hb;go_enter Tryz.func48,Tryz.ntmps48;go_wp2_with(first|(go_at_call 49;(with_reducible refine(JS HR).mono ?_);rintro e w9 ⟨rfl,hb⟩;have hW:=(zf.at_ (w:=_) (N:=w.heap.size+1+1) (by simp) [.int .i64 0,.bool false] 97).keep hb (by simp);have HW:=zH hW;have z0:=hW.cells 0 _ rfl;have z1:=hW.cells 1 _ rfl;have f0:=hW.free 0;have f1:=hW.free 1;have HB:=zH ((((((zb w.heap.size w).alloc (zn _) _).alloc (by simp) _).alloc (by simp;omega) _).trans (hb.mono (by simp;omega))));clear hb hW))
   have hz:=(HW.out.set 0 (.int .i64 (r.getD 0))).set 1 (.bool r.isNone);have k0:=hz.cells 0 _ rfl;have k1:=hz.cells 1 _ rfl;refine bodyPost_ret (v:=jH r) (by simp[results,Tryz.results48,go_sem,k0,k1]) rfl ⟨rfl,?_⟩;exact(HB.out.setCell (p:=⟨w.heap.size+1+1,0,none⟩) (by simp;omega) _).setCell (p:=⟨w.heap.size+1+1,1,none⟩) (by simp;omega) _
theorem qqy{a b r:Option Int}{w:World}(HA:Hid (vS a))(HB:Hid (vS b))(HR:Hid (Qv a b=r)):Calls Tryz.prog 48 #[jH a,jH b] w fun e w'=>e= .returned (jH r)∧Below w.heap.size w w':=by
 have H:=qo7 a b HA.out HB.out w;rw[HR.out]at H;exact H
set_option maxHeartbeats 800000 in
theorem qjx(a b:Option Int)(ha:vS a)(hb:vS b)(w:World):Calls Tryz.prog 50 #[jH a,jH b] w fun e w'=>e= .returned (jH (Zq a b))∧Below w.heap.size w w':=by
 cases a with
 |none=>
  have e:Zq none b=none:=by cases b<;>rfl
  rw[e];show Calls Tryz.prog 50 #[.agg #[.int .i64 0,.bool true],.agg #[.int .i64 (b.getD 0),.bool b.isNone]] w _;generalize b.getD 0=y;generalize b.isNone=yb;go_enter Tryz.func50,Tryz.ntmps50;go_wp2_with fail
  have hz:=zf.at_ (w:=(w.alloc (.cells #[.int .i64 0,.bool true] 97)).alloc (.cells #[.int .i64 y,.bool yb] 97)) (N:=w.heap.size+1+1) (by simp) [.int .i64 0,.bool true] 97;have k0:=hz.cells 0 _ rfl;have k1:=hz.cells 1 _ rfl;refine bodyPost_ret (v:=jH none) (by simp[results,Tryz.results50,go_sem,k0,k1]) rfl ⟨rfl,?_⟩;exact(((zb w.heap.size w).alloc (zn _) _).alloc (by simp) _).alloc (by simp;omega) _
 |some x=>cases b with
  |none=>
   show Calls Tryz.prog 50 #[.agg #[.int .i64 x,.bool false],.agg #[.int .i64 0,.bool true]] w (fun e w'=>e= .returned (jH none)∧Below w.heap.size w w');go_enter Tryz.func50,Tryz.ntmps50;go_wp2_with fail
   have hz:=zf.at_ (w:=(w.alloc (.cells #[.int .i64 x,.bool false] 97)).alloc (.cells #[.int .i64 0,.bool true] 97)) (N:=w.heap.size+1+1) (by simp) [.int .i64 0,.bool true] 97;have k0:=hz.cells 0 _ rfl;have k1:=hz.cells 1 _ rfl;refine bodyPost_ret (v:=jH none) (by simp[results,Tryz.results50,go_sem,k0,k1]) rfl ⟨rfl,?_⟩;exact(((zb w.heap.size w).alloc (zn _) _).alloc (by simp) _).alloc (by simp;omega) _
  |some y=>
   have HX:=zH (ha x rfl);have HY:=zH (hb y rfl);show Calls Tryz.prog 50 #[.agg #[.int .i64 x,.bool false],.agg #[.int .i64 y,.bool false]] w (fun e w'=>e= .returned (jH (ofO (x*y)))∧Below w.heap.size w w');obtain⟨n,hn⟩:∃n,IntKind.i64.wrap (x*y)=n:=⟨_,rfl⟩
   clear ha hb;by_cases h0:y=0
   ·have hd:(y !=0)=false:=by simp[h0]
    have hr:ofO (x*y)=some 0:=by rw[h0,Int.mul_zero];rfl
    have hn0:n=0:=by rw[←hn,h0,Int.mul_zero];rfl
    have HR:Hid (ofO n=some 0):=zH (by rw[hn0];rfl);rw[hr];clear hr hn0 h0;go_enter Tryz.func50,Tryz.ntmps50;go_upto_region 4 with fail
    go_quiet (fail)
    go_wp2_with(first|(go_at_call 49;(with_reducible refine(JS HR).mono ?_);rintro e w9 ⟨rfl,hb⟩;have hW:=((zf.at_ (w:=_) (N:=w.heap.size+1+1) (by simp) [.int .i64 0,.bool false] 97).keep (jf (zb (w.heap.size+1+1+1) _) _) (by simp)).keep hb (by simp);have HW:=zH hW;have z0:=hW.cells 0 _ rfl;have z1:=hW.cells 1 _ rfl;have f0:=hW.free 0;have f1:=hW.free 1;have HB:=zH ((jf (((((zb w.heap.size w).alloc (zn _) _).alloc (by simp) _).alloc (by simp;omega) _)) _).trans (hb.mono (by simp;omega)));clear hb hW))
    have hz:=(HW.out.set 0 (.int .i64 0)).set 1 (.bool false);have k0:=hz.cells 0 _ rfl;have k1:=hz.cells 1 _ rfl;refine bodyPost_ret (v:=jH (some 0)) (by simp[results,Tryz.results50,go_sem,k0,k1]) rfl ⟨rfl,?_⟩;exact(HB.out.setCell (p:=⟨w.heap.size+1+1,0,none⟩) (by simp;omega) _).setCell (p:=⟨w.heap.size+1+1,1,none⟩) (by simp;omega) _
   ·have hd:(y !=0)=true:=by simp[h0]
    have⟨hq,_⟩:=qb7 HX.out HY.out h0 hn;have⟨hp1,hp2⟩:=qom HX.out HY.out h0 hn;obtain⟨q,hqv⟩:∃q,Int.tdiv n y=q:=⟨_,rfl⟩
    rw[hqv]at hq hp1 hp2;have hwq:IntKind.i64.wrap q=q:=IntWalk.i64_in _ (by omega);by_cases hqx:q=x
    ·have hb:(q !=x)=false:=by simp[hqx]
     have hnx:ofO (x*y)=ofO n:=by rw[hp2 hqx]
     obtain⟨r,hr⟩:∃r,ofO n=r:=⟨_,rfl⟩
     rw[hnx,hr];have HR:=zH hr;have HQ:=zH hqx;clear hr hnx hp1 hp2 hqx;go_enter Tryz.func50,Tryz.ntmps50;go_upto_region 4 with fail
     go_quiet (fail)
     go_wp2_with(first|(go_at_call 49;(with_reducible refine(JS HR).mono ?_);rintro e w9 ⟨rfl,hb⟩;have hW:=((zf.at_ (w:=_) (N:=w.heap.size+1+1) (by simp) [.int .i64 0,.bool false] 97).keep (jf (zb (w.heap.size+1+1+1) _) _) (by simp)).keep hb (by simp);have HW:=zH hW;have z0:=hW.cells 0 _ rfl;have z1:=hW.cells 1 _ rfl;have f0:=hW.free 0;have f1:=hW.free 1;have HB:=zH ((jf (((((zb w.heap.size w).alloc (zn _) _).alloc (by simp) _).alloc (by simp;omega) _)) _).trans (hb.mono (by simp;omega)));clear hb hW))
     have hz:=(HW.out.set 0 (.int .i64 (r.getD 0))).set 1 (.bool r.isNone);have k0:=hz.cells 0 _ rfl;have k1:=hz.cells 1 _ rfl;refine bodyPost_ret (v:=jH r) (by simp[results,Tryz.results50,go_sem,k0,k1]) rfl ⟨rfl,?_⟩;exact(HB.out.setCell (p:=⟨w.heap.size+1+1,0,none⟩) (by simp;omega) _).setCell (p:=⟨w.heap.size+1+1,1,none⟩) (by simp;omega) _
    ·have hb:(q !=x)=true:=by simp[hqx]
     have hr:ofO (x*y)=none:=by unfold ofO;rw[hp1 hqx];rfl
     rw[hr];clear hr hp1 hp2 hqx;go_enter Tryz.func50,Tryz.ntmps50;go_upto_region 4 with fail
     go_quiet (fail)
     go_wp2_with fail
     have hz:=(((zf.at_ (w:=(w.alloc (.cells #[.int .i64 x,.bool false] 97)).alloc (.cells #[.int .i64 y,.bool false] 97)) (N:=w.heap.size+1+1) (by simp) [.int .i64 0,.bool false] 97).keep (jf (zb (w.heap.size+1+1+1) _) nq) (by simp)).set 0 (.int .i64 0)).set 1 (.bool true);have k0:=hz.cells 0 _ rfl;have k1:=hz.cells 1 _ rfl;refine bodyPost_ret (v:=jH none) (by simp[results,Tryz.results50,go_sem,k0,k1]) rfl ⟨rfl,?_⟩;exact((jf (((((zb w.heap.size w).alloc (zn _) _).alloc (by simp) _).alloc (by simp;omega) _)) _).setCell (p:=⟨w.heap.size+1+1,0,none⟩) (by simp;omega) _).setCell (p:=⟨w.heap.size+1+1,1,none⟩) (by simp;omega) _
theorem q26{a b r:Option Int}{w:World}(HA:Hid (vS a))(HB:Hid (vS b))(HR:Hid (Zq a b=r)):Calls Tryz.prog 50 #[jH a,jH b] w fun e w'=>e= .returned (jH r)∧Below w.heap.size w w':=by
 have H:=qjx a b HA.out HB.out w;rw[HR.out]at H;exact H
theorem qkh{L:List Nat}{ad:Addr}{c B:Nat}{w:World}{k:Nat}(h:Hid (zz w B (some ad) (qg L)))(hB:Hid (B≤w.heap.size))(h0:Hid (0<L.length))(hl:Hid (L.length≤1048576))(hk:Hid (L.length=k)):
  Calls Tryz.prog 135 #[.slice (some ad) k c] w fun e w'=>∃gi ci,e= .returned (.slice (some ⟨gi,0,none⟩) k ci)∧w.heap.size≤gi∧w'.ownsRow w.heap.size 3 1 (.slice (some ⟨gi,0,none⟩) k ci) k (qg L)∧Below w.heap.size w w':=by
 obtain rfl:=hk.out;exact qgc L ad c B w h.out hB.out h0.out hl.out
theorem qi6:(Tryz.prog.info? 26).map (fun i=>(i.zero,i.size,i.bytes))=some (some (.slice none 0 0),1,24):=by kernel_rfl
def qps(B g:Nat)(EL:List (List Int))(n:Nat)(S:Wk)(O X:List Nat)(w:World)(e:Ending)(w':World):Prop:=
 e= .returned (.tuple #[])∧(∃c a' ρ',c.Perm X∧c.Pairwise (· ≤ ·)∧zI w' B g EL n {S with opn:=O,back:=fun x=>if x ∈X then vj else S.back x,parts:=S.parts++[c]} a' ρ')∧Below B w w'
theorem qjy{L:List Nat}{t:Nat}(ht:t<L.length)(f:Nat→Int):zU (fun x=>if x ∈L.take t then vj else f x) L[t] vj=fun x=>if x ∈L.take (t+1)then vj else f x:=funext fun x=>by
 have e1:L.take (t+1)=L.take t++[L[t]]:=by rw[List.take_add_one,List.getElem?_eq_getElem ht];rfl
 rw[e1];unfold zU;by_cases e:x=L[t]
 ·rw[if_pos e,if_pos (by rw[List.mem_append,List.mem_singleton];exact .inr e)]
 ·rw[if_neg e];show(if x ∈L.take t then vj else f x)=_;by_cases q:x ∈L.take t
  ·rw[if_pos q,if_pos (List.mem_append_left _ q)]
  ·rw[if_neg q,if_neg (by rw[List.mem_append,List.mem_singleton];exact fun r=>r.elim q e)]
set_option maxHeartbeats 3200000 in
theorem qgb(B g n v:Nat)(EL:List (List Int))(S:Wk)(O X:List Nat)(a:QO)(ρ:Nat→Nat)(w:World)(h:zI w B g EL n S a ρ)(ho:S.opn=O++v::X)(hX:v ∉X)(hlt:∀x ∈v::X,x<n)(hol:S.opn.length≤n)(hpl:S.parts.length≤n):
  Calls Tryz.prog 122 #[.pointer (some ⟨g,0,none⟩),.int .i64 (v:Int)] w (qps B g EL n S O (v::X) w):=by
 obtain⟨met,place,back,gone,way,opn,parts⟩:=S;obtain⟨gp,gb,gg,E,ce,Ay,cy,Ao,co,Ap,cp,vs⟩:=a;dsimp only at ho hol hpl;subst ho;have hn1:=h.n1;have hge:=h.g_ge;obtain⟨hg0,hg1,hg2,hg3⟩:=hge;have hoo:w.ownsRow B 3 1 (.slice Ao (O++v::X).length co) (O++v::X).length (qg (O++v::X)):=h.opn;have hlen:(O++v::X).length=O.length+X.length+1:=by simp;omega
 obtain⟨go,rfl,hc1,hc2,hgo,_⟩:=Yo hoo (by omega);have HI:=zH h;have HOO:=zH hoo;have q6:=h.blk.cells 6 _ rfl;dsimp only at q6 hg1 hg2 hg3;rw[hlen]at q6 hol hc1;have HLE:=zH hlen;obtain⟨k,hk⟩:∃k,O.length=k:=⟨_,rfl⟩
 obtain⟨j,hj⟩:∃j,X.length=j:=⟨_,rfl⟩
 rw[hk,hj]at q6 hol hc1;have HK:=zH hk;have HJ:=zH hj;have HLT:=zH hlt;have HXN:=zH hX;have hv:v<n:=hlt v (List.mem_cons_self ..);clear h hoo hlen hk hj hX hlt;go_enter Tryz.func122,Tryz.ntmps122;go_wp2_with fail
 go_loopw [4] (fun i wr=>∃t:Nat,t≤j∧i= .int .i64 ((k+t:Nat):Int)∧wr=w) (fun i _=>(intOf i).toNat)
 case atStart=>exact⟨j,zn _,by go_num,rfl⟩
 case round=>
  obtain⟨t,ht,rfl,hww⟩:=hrel;obtain rfl:=hww.symm;obtain⟨m,hm⟩:∃m,k+t=m:=⟨_,rfl⟩
  rw[hm];cases t with
  |succ s=>
   have hs:s<X.length:=by rw[HJ.out];omega
   obtain⟨y,hy⟩:∃y,X[s]=y:=⟨_,rfl⟩
   have hc:=Yp HOO.out (JI (l:=O++v::X) (j:=m) (v:=y) (by rw[List.getElem?_append_right (by rw[HK.out];omega),HK.out,show m - k=s+1 by omega,List.getElem?_cons_succ,List.getElem?_eq_getElem hs,hy]));have hne:y≠v:=fun e=>HXN.out (by rw[←e,←hy];exact List.getElem_mem hs);have hne2:((y:Int) !=(v:Int))=true:=by simp;omega
   clear hy hne;go_wp2_with fail
   go_roundw;case rel=>exact⟨s,by omega,by go_num,by first|rfl|trivial⟩
   case measure=>simp[intOf];omega
  |zero=>
   obtain rfl:k=m:=by omega
   have hc:=Yp HOO.out (JI (l:=O++v::X) (j:=k) (v:=v) (by rw[List.getElem?_append_right (by rw[HK.out];exact zn _),HK.out,Nat.sub_self];rfl));have hne2:((v:Int) !=(v:Int))=false:=by simp
   have HT:Hid (zz w w.heap.size (some ⟨go,k,none⟩) (qg (v::X))):=zH (by
    have:=(zz.of_own HOO.out).drop_ k;rw[←qlv,←HK.out,List.drop_left,HK.out]at this;have e:(⟨go,0,none⟩:Addr).add k=⟨go,k,none⟩:=by unfold Addr.add;split<;>simp_all
    rw[←e];exact this)
   have HLL:Hid ((v::X).length=k+j+1 - k):=zH (by simp[HJ.out];omega);have HL0:Hid (0<(v::X).length):=zH (by simp);have HL1:Hid ((v::X).length≤1048576):=zH (by rw[HLL.out];omega);have HWZ:Hid (w.heap.size≤w.heap.size):=zH (zn _);have hck:¬co=k:=by omega
   clear hm ht;go_upto_region 4 with(go_at_call 135;go_loud (refine(qkh HT HWZ HL0 HL1 HLL).mono ?_);rintro e w2 ⟨gi,ci,rfl,hgi,hown,hb⟩;have HGI:=zH hgi;have HO2:=zH hown;have HB2:=zH hb;clear hgi hown hb)
   have hj1:k+j+1 - k=j+1:=by omega
   rw[hj1]at HO2;rw[hj1];have HLJ:Hid ((v::X).length=j+1):=zH (by rw[HLL.out,hj1]);have HF2:=zH (HI.out.fresh HB2.out HGI.out);have q6':=HF2.out.blk.cells 6 _ rfl;have f6':=HF2.out.blk.free 6;have HC3:=zH (HF2.out.opn_cut (O:=O) (X:=v::X) rfl);dsimp only at q6' HC3;rw[HLE.out,HK.out,HJ.out]at q6';rw[HK.out]at HC3;have X3:=zH (HF2.out.cell_below (HB2.out.mono HI.out.size) 6 (.slice (some ⟨go,0,none⟩) k co));have HR8:Hid (zU ρ gi 8 gi=8):=zH (kq _ _ _);have HO3:=zH (ky HO2.out (qu.cell (ρ:=zU ρ gi 8) (a:=⟨g,6,none⟩) HF2.out.r0 (.slice (some ⟨go,0,none⟩) k co)) (fun b hb=>by
    have e:gi=b:=by simpa[Value.ownBlock]using hb
    subst e;rw[HR8.out];decide))
   clear hc hne2 HT HLL HL0 HL1 hck q6;go_upto_region 5 with fail
   clear q6' f6' HF2 HB2 HO2;generalize w2.setCell ⟨g,6,none⟩ (.slice (some ⟨go,0,none⟩) k co)=w3 at*
   generalize zU ρ gi 8=ρ2 at*
   obtain⟨L,hL⟩:∃L,v::X=L:=⟨_,rfl⟩
   rw[hL]at HLT HO3 HLJ⊢
   have HXL:=zH hL;clear hL;go_wp2_with fail
   go_loopw [43] (fun i wi=>∃t:Nat,t≤j+1∧i= .int .i64 t∧Hid (zI wi B g EL n ⟨met,place,fun x=>if x ∈L.take t then vj else back x,gone,way,O,parts⟩ ⟨gp,gb,gg,E,ce,Ay,cy,some ⟨go,0,none⟩,co,Ap,cp,vs⟩ ρ2)∧Hid (wi.ownsRow w.heap.size 3 1 (.slice (some ⟨gi,0,none⟩) (j+1) ci) (j+1) (qg L))∧Hid (Below B w wi)) (fun i _=>j+1 - (intOf i).toNat)
   case atStart=>exact⟨0,Nat.zero_le _,rfl,HC3,HO3,X3⟩
   case round=>
    clear HC3 HO3 X3;obtain⟨t,ht,rfl,HW,HO,HX⟩:=hrel;by_cases htj:t<j+1
    ·have htl:t<L.length:=by rw[HLJ.out];exact htj
     have HTB:=zH (qjy htl back);have hx:=HLT.out _ (List.getElem_mem htl);have hc:=Yp HO.out (JI (l:=L) (j:=t) (v:=L[t]) (List.getElem?_eq_getElem htl));generalize L[t]=x at*
     have q3:=HW.out.blk.cells 3 _ rfl;obtain⟨c3,f3⟩:=HW.out.b_at hx;have H4:=zH (HW.out.back (v:=x) (k:=vj));dsimp only at q3 c3 f3 H4;rw[HTB.out]at H4;have HO4:=zH (ky HO.out (qu.cell (ρ:=ρ2) (a:=⟨gb,x,none⟩) HW.out.r2 (.int .i64 vj)) (fun b hb=>by
      have e:gi=b:=by simpa[Value.ownBlock]using hb
      subst e;rw[HR8.out];decide))
     have X4:=zH (HX.out.setCell (p:=⟨gb,x,none⟩) hg2 (.int .i64 vj));clear htl;go_wp2_with fail
     go_roundw;case rel=>exact⟨t+1,by omega,by go_num,H4,HO4,X4⟩
     case measure=>simp[intOf];omega
    ·obtain rfl:t=j+1:=by omega
     rw[←HLJ.out,List.take_length]at HW;have hsort:=qk6 L w.heap.size gi ci wr (by rw[HLJ.out];exact HO.out) (by rw[HLJ.out];omega);rw[HLJ.out]at hsort;have HS:=zH hsort;clear hsort htj;obtain⟨C,hC⟩:∃C,(L.mergeSort fun x y=>decide (x≤y))=C:=⟨_,rfl⟩
     have hok:=qpz L;rw[hC]at hok HS;have HP:=zH hok.1;have HPW:=zH hok.2;have HCL:Hid (C.length=j+1):=zH (by rw[hok.1.length_eq,HLJ.out]);clear hok hC;have hgiB:B≤gi:=Nat.le_trans HI.out.size HGI.out;go_upto_region 11 with(go_at_call 107;go_loud (refine HS.out.mono ?_);rintro e w5 ⟨rfl,hown,hg⟩;have HW5:=zH ((HW.out.sorted HR8.out hg).settled HR8.out);have HO5:=zH hown;have X5:=zH (HX.out.grown hg HW.out.size (fun b e=>by injection e with e;subst e;exact hgiB));clear hown hg)
     have HPI:Hid (JN w5 B (zU ρ2 gi 7) (.slice (some ⟨gi,0,none⟩) (j+1) ci) C):=zH (by
      obtain⟨g',c',rest,e1,_,hwh⟩:=qln HO5.out (Nat.succ_pos _);injection e1 with e1 e2 e3;injection e1 with e1;injection e1 with e1;subst e1;obtain⟨_,_,hl1,hl2,_,_⟩:=Yo HO5.out (Nat.succ_pos _);exact⟨gi,ci,rest,by rw[HCL.out],hgiB,kq _ _ _,by rw[HCL.out];exact hl1,hl2,hwh⟩)
     clear HW HO HX HS HO5;have q7:=HW5.out.blk.cells 7 _ rfl;dsimp only at q7;have HY:Hid (w5.ownsRow B 26 1 (.slice Ap parts.length cp) parts.length vs):=zH HW5.out.prt;have hz5:=HW5.out.size;obtain⟨i1,hi1,hy0,hy1,hy2⟩:=info_parts qi6;go_wp2_with(at_builtin;go_loud (refine wpList_append_lies _ rfl _ _ 64 rfl B 26 i1 (.slice none 0 0) 1 24 Tryz.underlying64 hi1 hy0 hy1 hy2 rfl (by decide) _ _ _ rfl (HY.out.alloc _) ⟨_,0,none⟩ 1 1 [.slice (some ⟨gi,0,none⟩) (j+1) ci] rfl rfl (q6m _ _ _) (Ve rfl) (by decide) (by unfold maxLen;omega) (by omega) (by simp;omega) _ rfl ?_);intro g9 c9 w9 hown hgrow hor hlt9;have hb9:=ki HW5.out.blk (Vr HW5.out.r6 hgrow) (by rw[HW5.out.r0];decide);have q7':=hb9.cells 7 _ rfl;have f7':=hb9.free 7;have HA:=zH (HW5.out.prt_app HPI.out hown hgrow hor);clear hown hgrow hor hlt9 hb9;dsimp only at q7')
     go_end0
     obtain rfl:=HXL.out;exact⟨rfl,⟨C,_,_,HP.out,HPW.out,HA.out.1⟩,X5.out.trans HA.out.2⟩
end Go.Proofs.YtdbfllajopcccaaGreat
