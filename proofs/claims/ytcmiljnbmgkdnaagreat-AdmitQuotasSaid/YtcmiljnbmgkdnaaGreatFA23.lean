import Derived.Test.YtcmiljnbmgkdnaaGreatFA20
namespace Go.Proofs.YtcmiljnbmgkdnaaGreat
set_option maxRecDepth 100000
set_option linter.unusedVariables false
set_option linter.unusedSimpArgs false
open Go.ChangeShapes Go.WideShapes Go.ChangeAt Go.RowKit
theorem qoc:(Tryz.prog.info? 4).map (fun i=>(i.zero,i.size,i.bytes))=some (some (.bool false),1,1):=by kernel_rfl
theorem qjn:(Tryz.prog.info? 119).map (fun i=>(i.zero,i.size,i.bytes))=some (some (.slice none 0 0),1,24):=by kernel_rfl
theorem qy.hole_at{w:World}{gO n k:Nat}{G:List Nat}{W:List (List Bool)}(h:qy w gO n G W)(hk:G.length=k)(hi:k<n):w.cell? ⟨gO,k,none⟩=some (.slice none 0 0):=
 h.blk.cells _ _ (by
  subst hk;unfold sqV;rw[XM (by rw[Xi];exact zn _),Xi,Nat.sub_self,Wn,Xb (by omega)])
theorem qy.nil{w:World}{gO n:Nat}(h:ze w gO (List.replicate n (.slice none 0 0)) 119):qy w gO n [] []:=
 ⟨by simpa[sqV]using h,rfl,fun i g r hg=>by simp at hg,by simp,fun g hg=>by simp at hg⟩
theorem qy.row_get{w:World}{gO n i g:Nat}{G:List Nat}{W:List (List Bool)}(h:qy w gO n G W)(hg:G[i]? =some g):w.cell? ⟨gO,i,none⟩=some (.slice (some ⟨g,0,none⟩) n n):=by
 obtain⟨hi,rfl⟩:=Xw.mp hg;exact h.row_at hi
theorem qy.bit_get{w:World}{gO n i j g:Nat}{G:List Nat}{W:List (List Bool)}(h:qy w gO n G W)(hg:G[i]? =some g)(hj:j<n):w.cell? ⟨g,j,none⟩=some (.bool (qf W i j)):=by
 obtain⟨hi,rfl⟩:=Xw.mp hg;exact h.bit_at hi hj
theorem qy.free_get{w:World}{gO n i g:Nat}{G:List Nat}{W:List (List Bool)}(h:qy w gO n G W)(hg:G[i]? =some g)(j:Nat):w.frozen? ⟨g,j,none⟩=false:=by
 obtain⟨hi,rfl⟩:=Xw.mp hg;exact(h.row_in hi).1.free j
theorem qy.set_get{w:World}{gO n i j g:Nat}{G:List Nat}{W:List (List Bool)}(h:qy w gO n G W)(hg:G[i]? =some g)(b:Bool):qy (w.setCell ⟨g,j,none⟩ (.bool b)) gO n G (vW W i j b):=by
 obtain⟨hi,rfl⟩:=Xw.mp hg;exact h.set hi b
theorem qy.lt{w:World}{gO n:Nat}{G:List Nat}{W:List (List Bool)}(h:qy w gO n G W):∀g ∈G,g<w.heap.size:=fun g hg=>by
 obtain⟨i,hi,rfl⟩:=Wi hg;exact(h.row_in hi).1.lt
theorem qta{i j i' j':Nat}{W:List (List Bool)}(hl:i<W.length)(hr:j<(W[i]?.getD []).length)(b:Bool):qf (vW W i j b) i' j'=if i'=i∧j'=j then b else qf W i' j':=by
 unfold qf vW;rw[Wg];by_cases hii:i=i'
 ·subst hii;rw[Xb rfl,Xb hl,XY,Wg];by_cases hjj:j=j'
  ·subst hjj;rw[Xb rfl,Xb hr,Xb ⟨rfl,rfl⟩];rfl
  ·rw[Xa hjj,Xa (fun q=>hjj q.2.symm)]
 ·rw[Xa hii,Xa (fun q=>hii q.1.symm)]
def Qh(EL:List (List Int))(n k:Nat)(L:List Int)(q:Nat)(X:List (List Bool)):Prop:=∀a b:Nat,a<k+1→b<n→(qf X a b=true↔((a<k∧vl EL a b)∨(a=k∧(b:Int) ∈L.take q)))
theorem Qh.start{EL:List (List Int)}{n k:Nat}{L:List Int}{W:List (List Bool)}(hk:W.length=k)(h:∀a b:Nat,a<k→b<n→(qf W a b=true↔vl EL a b)):Qh EL n k L 0 (W++[List.replicate n false]):=fun a b ha hb=>by
 rcases Xj a k with q|q
 ·have e:qf (W++[List.replicate n false]) a b=qf W a b:=by unfold qf;rw[XJ (by omega)]
  rw[e,h a b q hb];exact⟨fun x=> .inl ⟨q,x⟩,fun x=>by rcases x with⟨_,x⟩|⟨x,_⟩;exact x;omega⟩
 ·obtain rfl:a=k:=by omega
  have e:qf (W++[List.replicate n false]) a b=false:=by
   unfold qf
   rw[XM (by omega),hk,Nat.sub_self];simp[Wn,hb]
  rw[e];simp
theorem Qh.no{EL:List (List Int)}{n k q:Nat}{L:List Int}{X:List (List Bool)}{u:Int}(h:Qh EL n k L q X)(hu:L[q]? =some u)(hn:u<0∨(n:Int)≤u):Qh EL n k L (q+1) X:=fun a b ha hb=>by
 rw[h a b ha hb,XA,hu];have:¬(b:Int)=u:=by omega
 simp[this]
theorem Qh.yes{EL:List (List Int)}{n k q U:Nat}{L:List Int}{X:List (List Bool)}(h:Qh EL n k L q X)(hu:L[q]? =some (U:Int))(hl:k<X.length)(hr:U<(X[k]?.getD []).length):Qh EL n k L (q+1) (vW X k U true):=fun a b ha hb=>by
 rw[qta hl hr,XA,hu];by_cases e:a=k∧b=U
 ·rw[Xb e];simp[e.1,e.2]
 ·rw[Xa e,h a b ha hb];by_cases ea:a=k
  ·have:¬(b:Int)=(U:Int):=fun q=>e ⟨ea,by omega⟩;simp[ea,this]
  ·simp[ea]
theorem Qh.end_{EL:List (List Int)}{n k:Nat}{L:List Int}{X:List (List Bool)}(h:Qh EL n k L L.length X)(hL:EL[k]?.getD []=L):∀a b:Nat,a<k+1→b<n→(qf X a b=true↔vl EL a b):=fun a b ha hb=>by
 rw[h a b ha hb,XP];rcases Xj a k with q|q
 ·exact⟨fun x=>by rcases x with⟨_,x⟩|⟨x,_⟩;exact x;omega,fun x=> .inl ⟨q,x⟩⟩
 ·obtain rfl:a=k:=by omega
  unfold vl;rw[hL];exact⟨fun x=>by rcases x with⟨x,_⟩|⟨_,x⟩;omega;exact x,fun x=> .inr ⟨rfl,x⟩⟩
def qv6(EL:List (List Int))(n:Nat)(w:World)(e:Ending)(w':World):Prop:=∃gO G W,e= .returned (.slice (some ⟨gO,0,none⟩) n n)∧Below w.heap.size w w'∧qy w' gO n G W∧G.length=n∧ZP EL n n W∧w.heap.size≤gO∧∀g ∈G,w.heap.size≤g
set_option maxHeartbeats 3200000 in
theorem qmo(EL:List (List Int))(n:Nat)(A:Option Addr)(c:Nat)(w:World)(h:zd (zG zq 1) 1 w w.heap.size A c EL)(hn:EL.length=n)(hl:n≤1000):
  Calls Tryz.prog 64 #[.slice A n c] w (qv6 EL n w):=by
 obtain⟨i0,hi0,hz0,hz1,hz2⟩:=qQ qjn;obtain⟨i1,hi1,hy0,hy1,hy2⟩:=qQ qoc;have HE:=zH h;have HN:=zH hn;clear h hn;go_enter Tryz.func64,Tryz.ntmps64;go_upto_region 3 with(at_make;refine wpList_make_full _ rfl _ _ 117 rfl w.heap.size 119 i0 (.slice none 0 0) 1 Tryz.underlying117 hi0 hz0 hz1 .i64 .i64 _ _ n rfl rfl rfl rfl (by rw[hz2];omega) (by unfold maxLen;omega) (zn _) ?_;intro w2 hown hgrow;have HO2:=zH hown;have HB2:=zH ((zb w.heap.size w).grown hgrow (zn _) (fun k hk=>by cases hk));clear hown hgrow)
 have HQ2:Hid (qy w2 w.heap.size n [] []):=zH (qy.nil (by have h1:=Yx HO2.out;rw[JX (v:= .slice none 0 0) rfl]at h1;exact h1));have HG2:Hid (w.heap.size<w2.heap.size):=zH (HQ2.out.blk.lt);clear HO2;go_wp2_with fail
 go_loopw [5] (fun i wr=>∃(k:Nat) (G:List Nat) (W:List (List Bool)),k≤n∧i= .int .i64 k∧Hid (G.length=k)∧Hid (qy wr w.heap.size n G W)∧Hid (Below w.heap.size w wr)∧Hid (∀g ∈G,w.heap.size≤g)∧Hid (∀a b:Nat,a<k→b<n→(qf W a b=true↔vl EL a b))) (fun i _=>n - (intOf i).toNat)
 case atStart=>exact⟨0,[],[],by omega,rfl,zH rfl,HQ2,HB2,zH (fun g h=>by simp at h),zH (fun a b h=>by omega)⟩
 case round=>
  obtain⟨k,G,W,hk,rfl,HL,HQ,HX,HG,HW⟩:=hrel;have hsz:=HX.out.size;by_cases hlt:k<n
  ·have hkE:k<EL.length:=by rw[HN.out];exact hlt
   obtain⟨adM,rfl,habM,A1,cL,r0,hsr⟩:=HE.out.row.at_ hkE;obtain⟨L,hL⟩:∃L,EL[k]=L:=⟨_,rfl⟩
   rw[hL]at r0 hsr;rw[Xq]at r0;have HLE:Hid (EL[k]?.getD []=L):=zH (by rw[Xc hkE,XY,hL]);have HSR:=zH hsr;have HR0:=zH r0;have hcL:=hsr.cap;have hle1:=hsr.le;clear hL r0 hsr hkE;go_upto_region 7 with(at_make;refine wpList_make_full _ rfl _ _ 119 rfl wr.heap.size 4 i1 (.bool false) 1 Tryz.underlying119 hi1 hy0 hy1 .i64 .i64 _ _ n rfl rfl rfl rfl (by rw[hy2];omega) (by unfold maxLen;omega) (zn _) ?_;intro w6 hown hgrow;have HO6:=zH hown;have HB6:=zH ((zb wr.heap.size wr).grown hgrow (zn _) (fun k hk=>by cases hk));have HQ6:=zH (HQ.out.keep HB6.out);have c0:=HQ6.out.hole_at HL.out hlt;have f0:=HQ6.out.blk.free k;clear hown hgrow)
   have HQ7:Hid (qy (w6.setCell ⟨w.heap.size,k,none⟩ (.slice (some ⟨wr.heap.size,0,none⟩) n n)) w.heap.size n (G++[wr.heap.size]) (W++[List.replicate n false])):=zH (by
    have h1:=HQ6.out.add (g:=wr.heap.size) (r:=List.replicate n false) (by rw[HL.out];exact hlt) (by simp) (by have h2:=Yx HO6.out;rw[JX (v:= .bool false) rfl]at h2;rw[List.map_replicate];exact h2) (fun x hx e=>by have:=HQ.out.lt x hx;omega) (fun e=>by have:=HQ.out.blk.lt;omega);rw[HL.out]at h1;exact h1)
   have HX7:Hid (Below w.heap.size w (w6.setCell ⟨w.heap.size,k,none⟩ (.slice (some ⟨wr.heap.size,0,none⟩) n n))):=zH ((HX.out.trans (HB6.out.mono hsz)).setCell (p:=⟨w.heap.size,k,none⟩) (zn _) _);have HW7:=zH (Qh.start (L:=L) (by rw[←HQ.out.len];exact HL.out) HW.out);have HGk:Hid ((G++[wr.heap.size])[k]? =some wr.heap.size):=zH (by rw[XM (by rw[HL.out];exact zn _),HL.out,Nat.sub_self];rfl);clear c0 f0 HQ6 HO6 HB6 HQ HX HW;generalize w6.setCell ⟨w.heap.size,k,none⟩ (.slice (some ⟨wr.heap.size,0,none⟩) n n)=w7 at*
   generalize wr.heap.size=gN at*
   go_wp2_with fail
   go_loopw [6] (fun e wi=>∃(q:Nat) (X:List (List Bool)),q≤L.length∧e= .int .i64 q∧Hid (qy wi w.heap.size n (G++[gN]) X)∧Hid (Below w.heap.size w wi)∧Hid (Qh EL n k L q X)) (fun e _=>L.length - (intOf e).toNat)
   case atStart=>exact⟨0,_,by omega,rfl,HQ7,HX7,HW7⟩
   case round=>
    clear HQ7 HX7 HW7;obtain⟨q,X,hq,rfl,HQi,HXi,HWi⟩:=hrel;have e0:=(HXi.out.cell (p:=adM.add k) (by rw[zp];exact habM)).trans HR0.out;by_cases hql:q<L.length
    ·obtain⟨ad1,rfl,hab1,s0⟩:=HSR.out.row.at_ hql;obtain⟨u,hu⟩:∃u,L[q]=u:=⟨_,rfl⟩
     rw[hu,Xq]at s0;have s1:=(HXi.out.cell (p:=ad1.add q) (by rw[zp];exact hab1)).trans s0;have HU:Hid (L[q]? =some u):=zH (by rw[Xc hql,hu]);clear hu s0;by_cases hu0:0≤u
     ·obtain⟨U,rfl⟩:=Xm hu0;have i2:(U:Int) ≥ 0:=hu0;by_cases hun:U<n
      ·have i3:(U:Int)<n:=by omega
       have c0:=HQi.out.row_get HGk.out;have b1:=HQi.out.bit_get HGk.out hun;have f1:=HQi.out.free_get HGk.out U;go_wp2_with fail
       go_region
       go_wp2_with fail
       go_roundw;case rel=>exact⟨q+1,vW X k U true,by omega,by go_num,zH ((HQi.out.set_get HGk.out true).keep (zb _ _).drew),zH (HXi.out.setCell (p:=⟨gN,U,none⟩) hsz _).drew,zH (HWi.out.yes HU.out (by rw[←HQi.out.len];exact(Xw.mp HGk.out).1) (by rw[(HQi.out.row_in (Xw.mp HGk.out).1).2];exact hun))⟩
       case measure=>simp[intOf];omega
      ·have i3:¬(U:Int)<n:=by omega
       go_wp2_with fail
       go_roundw;case rel=>exact⟨q+1,X,by omega,by go_num,HQi,HXi,zH (HWi.out.no HU.out (by omega))⟩
       case measure=>simp[intOf];omega
     ·have i2:¬u ≥ 0:=hu0;go_wp2_with fail
      go_roundw;case rel=>exact⟨q+1,X,by omega,by go_num,HQi,HXi,zH (HWi.out.no HU.out (by omega))⟩
      case measure=>simp[intOf];omega
    ·obtain rfl:q=L.length:=by omega
     go_wp2_with fail
     go_roundw;case rel=>exact⟨k+1,G++[gN],X,by omega,by go_num,zH (by rw[Xt,HL.out];rfl),HQi,HXi,zH (fun g hg=>by
      rcases Xs.mp hg with x|x
      ·exact HG.out g x
      ·simp at x;subst x;exact hsz),zH (HWi.out.end_ HLE.out)⟩
     case measure=>simp[intOf];omega
  ·obtain rfl:n=k:=by omega
   have HWs:Hid (ZP EL n 0 W):=zH (ZP.first ⟨by rw[←HQ.out.len];exact HL.out,fun r hr=>by
    obtain⟨i,hi,rfl⟩:=Wi hr;exact(HQ.out.rows i _ _ (Xc (by rw[HQ.out.len];exact hi)) (Xc hi)).2⟩ HW.out)
   clear HW;go_wp2_with fail
   go_loopw [7] (fun i wi=>∃(k:Nat) (X:List (List Bool)),k≤n∧i= .int .i64 k∧Hid (qy wi w.heap.size n G X)∧Hid (Below w.heap.size w wi)∧Hid (ZP EL n k X)) (fun i _=>n - (intOf i).toNat)
   case atStart=>exact⟨0,W,by omega,rfl,HQ,HX,HWs⟩
   case round=>
    clear HQ HX HWs hsz;obtain⟨k,W1,hk,rfl,HQ1,HX1,HW1⟩:=hrel;by_cases hlt:k<n
    ·go_wp2_with fail
     go_loopw [8] (fun i wi=>∃(a:Nat) (X:List (List Bool)),a≤n∧i= .int .i64 a∧Hid (qy wi w.heap.size n G X)∧Hid (Below w.heap.size w wi)∧Hid (Qd EL n k W1 X a 0)) (fun i _=>n - (intOf i).toNat)
     case atStart=>exact⟨0,W1,by omega,rfl,HQ1,HX1,zH HW1.out.start⟩
     case round=>
      clear HQ1 HX1;obtain⟨a,X,ha,rfl,HQ2,HX2,HM2⟩:=hrel;by_cases halt:a<n
      ·go_wp2_with fail
       go_loopw [9] (fun i wi=>∃(b:Nat) (Y:List (List Bool)),b≤n∧i= .int .i64 b∧Hid (qy wi w.heap.size n G Y)∧Hid (Below w.heap.size w wi)∧Hid (Qd EL n k W1 Y a b)) (fun i _=>n - (intOf i).toNat)
       case atStart=>exact⟨0,X,by omega,rfl,HQ2,HX2,HM2⟩
       case round=>
        clear HQ2 HX2 HM2;obtain⟨b,Y,hb,rfl,HQ3,HX3,HM3⟩:=hrel;by_cases hblt:b<n
        ·obtain⟨ga,hga0⟩:∃g,G[a]? =some g:=⟨_,Xc (by rw[HL.out];exact halt)⟩
         obtain⟨gk,hgk0⟩:∃g,G[k]? =some g:=⟨_,Xc (by rw[HL.out];exact hlt)⟩
         have hle:=HG.out ga (Xo hga0);have hga:=zH hga0;have r1:=HQ3.out.row_get hga0;have r2:=HQ3.out.row_get hgk0;have b1:=HQ3.out.bit_get hga0 hblt;have b2:=HQ3.out.bit_get hga0 hlt;have b3:=HQ3.out.bit_get hgk0 hblt;have f1:=HQ3.out.free_get hga0 b;clear hga0 hgk0;obtain⟨v1,e1⟩:∃v,qf Y a b=v:=⟨_,rfl⟩
         obtain⟨v2,e2⟩:∃v,qf Y a k=v:=⟨_,rfl⟩
         obtain⟨v3,e3⟩:∃v,qf Y k b=v:=⟨_,rfl⟩
         have HE1:=zH e1;have HE2:=zH e2;have HE3:=zH e3;rw[e1]at b1;rw[e2]at b2;rw[e3]at b3;clear e1 e2 e3;cases v1
         ·cases v2
          ·go_wp2_with fail
           go_region
           go_wp2_with fail
           go_roundw;case rel=>exact⟨b+1,vW Y a b false,by omega,by go_num,zH ((HQ3.out.set_get hga.out false).keep (zb _ _).drew),zH (HX3.out.setCell (p:=⟨ga,b,none⟩) hle _).drew,zH (by have h1:=HM3.out.step hlt halt hblt;rw[HE1.out,HE2.out]at h1;exact h1)⟩
           case measure=>simp[intOf];omega
          ·cases v3
           ·go_wp2_with fail
            go_region
            go_wp2_with fail
            go_roundw;case rel=>exact⟨b+1,vW Y a b false,by omega,by go_num,zH ((HQ3.out.set_get hga.out false).keep (zb _ _).drew),zH (HX3.out.setCell (p:=⟨ga,b,none⟩) hle _).drew,zH (by have h1:=HM3.out.step hlt halt hblt;rw[HE1.out,HE2.out,HE3.out]at h1;exact h1)⟩
            case measure=>simp[intOf];omega
           ·go_wp2_with fail
            go_region
            go_wp2_with fail
            go_roundw;case rel=>exact⟨b+1,vW Y a b true,by omega,by go_num,zH ((HQ3.out.set_get hga.out true).keep (zb _ _).drew),zH (HX3.out.setCell (p:=⟨ga,b,none⟩) hle _).drew,zH (by have h1:=HM3.out.step hlt halt hblt;rw[HE1.out,HE2.out,HE3.out]at h1;exact h1)⟩
            case measure=>simp[intOf];omega
         ·go_wp2_with fail
          go_region
          go_wp2_with fail
          go_roundw;case rel=>exact⟨b+1,vW Y a b true,by omega,by go_num,zH ((HQ3.out.set_get hga.out true).keep (zb _ _).drew),zH (HX3.out.setCell (p:=⟨ga,b,none⟩) hle _).drew,zH (by have h1:=HM3.out.step hlt halt hblt;rw[HE1.out]at h1;exact h1)⟩
          case measure=>simp[intOf];omega
        ·obtain rfl:n=b:=by omega
         go_wp2_with fail
         go_roundw;case rel=>exact⟨a+1,Y,by omega,by go_num,HQ3,HX3,zH (HM3.out.next (zn _))⟩
         case measure=>simp[intOf];omega
      ·obtain rfl:n=a:=by omega
       go_wp2_with fail
       go_roundw;case rel=>exact⟨k+1,X,by omega,by go_num,HQ2,HX2,zH (Qd.end_ HW1.out HM2.out hlt (zn _))⟩
       case measure=>simp[intOf];omega
    ·obtain rfl:n=k:=by omega
     go_wp2_with fail
     go_ret;exact⟨w.heap.size,G,W1,rfl,HX1.out,HQ1.out,HL.out,HW1.out,zn _,HG.out⟩
structure Zf(EL:List (List Int))(n:Nat)(C:Nat→Int)(r f:Nat)(O:List Int):Prop where
 len:O.length=n
 low:∀t,0≤oN O t
 top:∀t,oN O t≤4800000*r+400000*f
 old:∀t,t<n→Qg EL n t≤r→oN O t=ki EL n C t
 new:∀t,t<n→t<f→Qg EL n t≤r+1→oN O t=ki EL n C t
section
variable{EL:List (List Int)}{n:Nat}{C:Nat→Int}{r f:Nat}{O:List Int}
theorem Zf.start:Zf EL n C 0 0 (List.replicate n 0):=by
 have h:∀t,oN (List.replicate n 0) t=0:=fun t=>by
  unfold oN;rw[Wn];split<;>rfl
 refine⟨Wq ..,fun t=>by rw[h];exact XR _,fun t=>by rw[h];omega,fun t ht hc=> ?_,fun t _ ht=>by omega⟩;have:=qe7 (EL:=EL) ht;omega
theorem Zf.step(h:Zf EL n C r f O)(hE:kv EL n)(hn:n≤12)(h0:∀g,0≤C g)(h1:∀g,C g≤32088)(hf:f<n):Zf EL n C r (f+1) (O.set f (jN EL n C f n+jP EL n (oN O) f n)):=by
 have hl:f<O.length:=by rw[h.len];exact hf
 have a1:=q4s (EL:=EL) (n:=n) (f:=f) (k:=n) h0;have a2:=qax (EL:=EL) (n:=n) (C:=C) (f:=f) (k:=n) (M:=32088) h1 (by omega);have a3:=q56 (EL:=EL) (n:=n) (o:=oN O) (f:=f) (k:=n);have a4:=qbu (EL:=EL) (n:=n) (o:=oN O) (f:=f) (k:=n) (M:=4800000*(r:Int)+400000*(f:Int)) hE (by omega) (fun t _=>h.top t);refine⟨by rw[XD];exact h.len,fun t=> ?_,fun t=> ?_,fun t ht hc=> ?_,fun t ht htf hc=> ?_⟩
 ·rw[Yg hl];split
  ·omega
  ·exact h.low t
 ·rw[Yg hl];split
  ·omega
  ·have:=h.top t;omega
 ·rw[Yg hl];split
  ·rename_i e;subst e;exact q9y hE ht (by omega) h.old
  ·exact h.old t ht hc
 ·rw[Yg hl];split
  ·rename_i e;subst e;exact q9y hE ht hc h.old
  ·exact h.new t ht (by omega) hc
theorem Zf.next(h:Zf EL n C r f O)(hf:n≤f)(hf2:f≤12):Zf EL n C (r+1) 0 O:=
 ⟨h.len,h.low,fun t=>by have:=h.top t;omega,fun t ht hc=>h.new t ht (by omega) hc,fun t _ ht=>by omega⟩
theorem Zf.done(h:Zf EL n C r f O)(hr:n≤r):O=(List.range n).map (ki EL n C):=by
 refine Wl (by rw[h.len,Xi,Wb]) fun i h1 h2=> ?_;have hi:i<n:=by rw[←h.len];exact h1
 have:=h.old i hi (by have:=qek (EL:=EL) (n:=n) i;omega);rw[Zb h1]at this;rw[this];simp
end
theorem q8b{EL:List (List Int)}{n g k:Nat}{o:Nat→Int}{b:Int}{L:List Int}(hk:k<L.length):je EL n o g b (L.take (k+1))=vx EL n o g (je EL n o g b (L.take k)) L[k]:=by
 unfold je;rw[XA,Xc hk,Wj];rfl
structure Zw(w:World)(N:Nat)(h:zg)(m:za):Prop where
 cell:w.cell? ⟨N,0,none⟩=some (.slice h.A0 m.classes.length h.c0)
 lt:N<w.heap.size
theorem Zw.now{w w':World}{N:Nat}{h:zg}{m:za}(H:Zw w N h m)(hb:Below w.heap.size w w'):Zw w' N h m:=
 ⟨(hb.cell (p:=⟨N,0,none⟩) H.lt).trans H.cell,Xp H.lt hb.size⟩
theorem qsh{m:za}{c:Int}{h:zg}{N:Nat}{w0 w:World}{L:List (Int×Int)}(HI:Hid (zi w0 w0.heap.size h m))(HX:Hid (Below w0.heap.size w0 w))(HK:Hid (Zw w0 N h m))(HS:Hid (Za m.classes=true))(HT:Hid (Ql m))(h1:c<m.classes.length)(HL:Hid (zV m.classes c=L)):
  Calls Tryz.prog 128 #[.int .i64 c,.pointer (some ⟨N,0,none⟩)] w fun e w'=>e= .returned (.int .i64 (L.length:Int))∧Below w.heap.size w w':=by
 have H:=q8r m.classes c N h.A0 h.c0 w.heap.size w (zn _) (HI.out.now HX.out).classes (HK.out.now HX.out).cell HS.out HT.out.f HT.out.n h1;rw[HL.out]at H;exact H.mono fun e w' g=>⟨g.1,by rw[←g.2];exact zb _ _⟩
theorem q4r{x:zf}{hx:qh}{w:World}(HU:Hid (JI x)):
  Calls Tryz.prog 132 #[jH hx x] w fun e w'=>e= .returned (.int .i64 ((x.args.length:Int)+(x.locals.length:Int)))∧Below w.heap.size w w':=
 qg2 x hx w HU.out.a HU.out.l
theorem q6r{P:Prop}(h:P:=by
 go_upto_region 6 with fail
 have HXd:Hid (Below w1.heap.size w1 w1.drew):=zH (zb _ _).drew;go_region_held3 (fun w'=>w'.cell? ⟨w.heap.size+1+1,1,none⟩=some (.int .i64 a)∧w'.cell? ⟨w.heap.size+1,0,none⟩=some (.slice hx.A0 x.args.length hx.k0)∧w'.cell? ⟨w.heap.size+1,1,none⟩=some (.slice hx.A1 x.locals.length hx.k1)∧w'.cell? ⟨w.heap.size+1,2,none⟩=some (.int .i64 x.ret.1)∧w'.cell? ⟨w.heap.size+1,3,none⟩=some (.int .i64 x.ret.2)∧w'.cell? ⟨w.heap.size+1,4,none⟩=some (.slice hx.A4 x.code.length hx.k4)∧w'.cell? ⟨w.heap.size+1,5,none⟩=some (.int .i64 x.depth)∧w'.cell? ⟨w.heap.size+1,6,none⟩=some (.int .i64 x.pot)∧w'.cell? ⟨w.heap.size+1,7,none⟩=some (.slice hx.A7 x.phi.length hx.k7)) (first|exact⟨a1,p0,p1,p2,p3,p4,p5,p6,p7⟩)
  (first|(go_at_call 132;(with_reducible refine(q4r HU).mono ?_);rintro e w3 ⟨rfl,hb⟩;have HX3:=zl HXd hb;have HC:=zH (HC.out.keep HX3.out (by have:=HZ.out;omega));have a1:=HC.out 1 _ rfl;have a2:=HC.out 2 _ rfl;have HP:=zH (HP.out.keep HX3.out (by have:=HZ.out;omega));obtain⟨p0,p1,p2,p3,p4,p5,p6,p7⟩:=ck8 HP.out;clear hb))
 go_wp2_with fail
 go_ret;exact⟨by rw[E.out];rfl,HW.out.trans (HX3.out.mono (by have:=HZ.out;omega))⟩):P:=h
theorem q6q{P:Prop}(h:P:=by
 go_upto_region 15 with fail
 have HXd:Hid (Below w1.heap.size w1 w1.drew):=zH (zb _ _).drew;go_region_held3 (fun w'=>w'.cell? ⟨w.heap.size+1+1,1,none⟩=some (.int .i64 a)∧w'.cell? ⟨w.heap.size+1+1,2,none⟩=some (.int .i64 b)∧w'.cell? ⟨w.heap.size,0,none⟩=some (.slice h.A0 m.classes.length h.c0)) (first|exact⟨a1,a2,q0⟩)
  (first|(go_at_call 128;(with_reducible refine(qsh HI HXd HK HS HT hlt HL).mono ?_);rintro e w3 ⟨rfl,hb⟩;have HX3:=zl HXd hb;have HC:=zH (HC.out.keep HX3.out (by have:=HZ.out;omega));have a1:=HC.out 1 _ rfl;have a2:=HC.out 2 _ rfl;have HQ:=zH (HQ.out.keep HX3.out (by have:=HZ.out;omega));have q0:=HQ.out 0 _ rfl;clear hb))
 go_wp2_with fail
 go_ret;exact⟨by rw[E2.out];rfl,HW.out.trans (HX3.out.mono (by have:=HZ.out;omega))⟩):P:=h
set_option maxHeartbeats 3200000 in
theorem qhn(m:za)(x:zf)(op a b:Int)(N:Nat)(h:zg)(hx:qh)(w:World)(H:zi w w.heap.size h m)(HM:qL w w.heap.size hx x)(hk:Zw w N h m)(h0:0≤a)(ht:Ql m)(hu:JI x)(hs:Za m.classes=true):
  Calls Tryz.prog 133 #[zk h m,jH hx x,zz op a b,cntV N] w fun e w'=>e= .returned (.bool (zC m x op a b))∧Below w.heap.size w w':=by
 obtain⟨hq,hp,hc,hb,hz⟩:=q7o w (jY h m) (zL hx x) [.int .i64 op,.int .i64 a,.int .i64 b] 28 53 55;have HQ:=zH hq;have HP:=zH hp;have HC:=zH hc;have HW:=zH hb;have HZ:=zH hz;have HI:=zH (H.now hb);have HK:=zH (hk.now hb);have HT:=zH ht;have HU:=zH hu;have HS:=zH hs;have l0:=H.classes.le;have l0c:=H.classes.cap;have l1:=H.statics.le;have l1c:=H.statics.cap;have l2:=H.ints.le;have l2c:=H.ints.cap;have l3:=H.methods.le;have l3c:=H.methods.cap;have l4:=HM.code.le;have l4c:=HM.code.cap;have m1:=hu.a;have m2:=hu.l;clear hq hp hc hb hz H HM hk ht hu hs;go_enter Tryz.func133,Tryz.ntmps133;go_upto_region 1 with fail
 generalize((w.alloc (.cells (jY h m).toArray 28)).alloc (.cells (zL hx x).toArray 53)).alloc (.cells [Value.int .i64 op,.int .i64 a,.int .i64 b].toArray 55)=w1 at*
 obtain⟨q0,q1,q2,q3,q4,q5,q6⟩:=qt HQ.out;obtain⟨p0,p1,p2,p3,p4,p5,p6,p7⟩:=ck8 HP.out;obtain⟨a0,a1,a2⟩:=zM HC.out;by_cases o1:op=1
 ·subst o1;have E:=zH (show zC m x 1 a b=decide (a<m.ints.length)from rfl);go_wp2_with fail
  go_ret;exact⟨by rw[E.out];rfl,HW.out⟩
 by_cases o3:op=3
 ·subst o3;have E:=zH (show zC m x 3 a b=decide (a<x.args.length+x.locals.length)from rfl);exact q6r
 by_cases o4:op=4
 ·subst o4;have E:=zH (show zC m x 4 a b=decide (a<x.args.length+x.locals.length)from rfl);exact q6r
 by_cases o18:op=18
 ·subst o18;have E:=zH (show zC m x 18 a b=decide (a<x.code.length)from rfl);go_wp2_with fail
  go_ret;exact⟨by rw[E.out];rfl,HW.out⟩
 by_cases o19:op=19
 ·subst o19;have E:=zH (show zC m x 19 a b=decide (a<x.code.length)from rfl);go_wp2_with fail
  go_ret;exact⟨by rw[E.out];rfl,HW.out⟩
 by_cases o22:op=22
 ·subst o22;have E:=zH (show zC m x 22 a b=decide (a<m.classes.length)from rfl);go_wp2_with fail
  go_ret;exact⟨by rw[E.out];rfl,HW.out⟩
 by_cases o34:op=34
 ·subst o34;have E:=zH (show zC m x 34 a b=decide (a<m.classes.length)from rfl);go_wp2_with fail
  go_ret;exact⟨by rw[E.out];rfl,HW.out⟩
 by_cases o29:op=29
 ·subst o29;have E:=zH (show zC m x 29 a b=decide (a<m.statics.length)from rfl);go_wp2_with fail
  go_ret;exact⟨by rw[E.out];rfl,HW.out⟩
 by_cases o30:op=30
 ·subst o30;have E:=zH (show zC m x 30 a b=decide (a<m.statics.length)from rfl);go_wp2_with fail
  go_ret;exact⟨by rw[E.out];rfl,HW.out⟩
 by_cases o31:op=31
 ·subst o31;have E:=zH (show zC m x 31 a b=decide (a<m.methods.length)from rfl);go_wp2_with fail
  go_ret;exact⟨by rw[E.out];rfl,HW.out⟩
 by_cases o27:op=27
 ·subst o27;have E:=zH (show zC m x 27 a b=(decide (a<m.classes.length)&& decide (b<(zV m.classes a).length))from rfl);obtain⟨L,hL⟩:∃L,zV m.classes a=L:=⟨_,rfl⟩
  rw[hL]at E;have HL:=zH hL;clear hL;by_cases hlt:a<(m.classes.length:Int)
  ·have E2:=zH (show zC m x 27 a b=decide (b<(L.length:Int))by rw[E.out,Xh hlt];rfl);exact q6q
  ·have E2:=zH (show zC m x 27 a b=false by rw[E.out,Xf hlt];rfl);have hd:decide (a<(m.classes.length:Int))=false:=Xf hlt;go_upto_region 15 with fail
   go_quiet (fail)
   go_wp2_with fail
   go_ret;exact⟨by rw[E2.out];rfl,qZ HW.out _⟩
 by_cases o28:op=28
 ·subst o28;have E:=zH (show zC m x 28 a b=(decide (a<m.classes.length)&& decide (b<(zV m.classes a).length))from rfl);obtain⟨L,hL⟩:∃L,zV m.classes a=L:=⟨_,rfl⟩
  rw[hL]at E;have HL:=zH hL;clear hL;by_cases hlt:a<(m.classes.length:Int)
  ·have E2:=zH (show zC m x 28 a b=decide (b<(L.length:Int))by rw[E.out,Xh hlt];rfl);exact q6q
  ·have E2:=zH (show zC m x 28 a b=false by rw[E.out,Xf hlt];rfl);have hd:decide (a<(m.classes.length:Int))=false:=Xf hlt;go_upto_region 15 with fail
   go_quiet (fail)
   go_wp2_with fail
   go_ret;exact⟨by rw[E2.out];rfl,qZ HW.out _⟩
 by_cases o32:op=32
 ·subst o32;have E:=zH (show zC m x 32 a b=(decide (a<m.classes.length)&& decide (b<Yf m.classes a))from rfl);by_cases hlt:a<(m.classes.length:Int)
  ·obtain⟨n,rfl⟩:=Xm h0;have hnl:n<m.classes.length:=by omega
   obtain⟨adc,e0,hab,hcl⟩:=HI.out.classes.row.at_ hnl;have HSN:=zH (show Yf m.classes (n:Int)=(m.classes[n].slots.length:Int)by unfold Yf;rw[Xe,Xc hnl]);generalize m.classes[n]=c at*
   obtain⟨_,_,⟨A2,k2,s2,hs2⟩⟩:=hcl;rw[e0]at q0;have E2:=zH (show zC m x 32 (n:Int) b=decide (b<(c.slots.length:Int))by rw[E.out,HSN.out,Xh hlt];rfl);clear e0 hs2 HSN;go_upto_region 22 with fail
   go_quiet (fail)
   go_wp2_with fail
   go_ret;exact⟨by rw[E2.out];rfl,qZ HW.out _⟩
  ·have E2:=zH (show zC m x 32 a b=false by rw[E.out,Xf hlt];rfl);have hd:decide (a<(m.classes.length:Int))=false:=Xf hlt;go_upto_region 22 with fail
   go_quiet (fail)
   go_wp2_with fail
   go_ret;exact⟨by rw[E2.out];rfl,qZ HW.out _⟩
 have E:=zH (show zC m x op a b=true by unfold zC;simp[o1,o3,o4,o18,o19,o22,o34,o27,o28,o29,o30,o31,o32]);go_wp2_with fail
 go_ret;exact⟨by rw[E.out];rfl,HW.out⟩
def vG(m:za)(x:zf):Bool:=decide (¬x.code.length=0)&& (decide (x.phi.length=x.code.length)&& (decide (x.args.length+x.locals.length≤8)&& ZM m x))
theorem qag{m:za}{x:zf}{op a b:Int}{N:Nat}{h:zg}{hx:qh}{w0 w:World}{r:Bool}(HI:Hid (zi w0 w0.heap.size h m))(HM:Hid (qL w0 w0.heap.size hx x))(HK:Hid (Zw w0 N h m))(HX:Hid (Below w0.heap.size w0 w))(HT:Hid (Ql m))(HU:Hid (JI x))(HS:Hid (Za m.classes=true))(H0:Hid (0≤a))(HR:Hid (zC m x op a b=r)):
  Calls Tryz.prog 133 #[zk h m,jH hx x,zz op a b,cntV N] w fun e w'=>e= .returned (.bool r)∧Below w.heap.size w w':=by
 have H:=qhn m x op a b N h hx w (HI.out.now HX.out) (HM.out.now HX.out) (HK.out.now HX.out) H0.out HT.out HU.out HS.out;rw[HR.out]at H;exact H
theorem q36{P:Prop}(h:P:=by
 go_wp2_with((go_at_call 132;(with_reducible refine(q4r (hx:=⟨A0x,A1x,A4x,A7x,k0x,k1x,k4x,k7x⟩) HU).mono ?_);rintro e w5 ⟨rfl,hb⟩;have HX:=zl HX hb;obtain⟨kq0,kq1,kq2,kq3,kq4,kq5,kq6⟩:=qt (HQ.out.keep HX.out HQZ.out);obtain⟨kp0,kp1,kp2,kp3,kp4,kp5,kp6,kp7⟩:=ck8 (HP.out.keep HX.out HPZ.out);clear hb))
 go_ret;exact⟨by rw[E2.out];rfl,HW.out.trans (HX.out.mono HZw.out)⟩):P:=h
set_option maxHeartbeats 3200000 in
theorem qg3(m:za)(x:zf)(N:Nat)(h:zg)(hx:qh)(w:World)(H:zi w w.heap.size h m)(H':qL w w.heap.size hx x)(hk:Zw w N h m)(ht:Ql m)(hu:JI x)(hs:Za m.classes=true):
  Calls Tryz.prog 87 #[zk h m,jH hx x,cntV N] w fun e w'=>e= .returned (.bool (vG m x))∧Below w.heap.size w w':=by
 obtain⟨hq,hp,hb,hz⟩:=q1i w (jY h m) (zL hx x) 28 53;have HQ:=zH hq;have HP:=zH hp;have HW:=zH hb;have HI:=zH (H.now hb);have HM:=zH (H'.now hb);have HK:=zH (hk.now hb);have HT:=zH ht;have HU:=zH hu;have HS:=zH hs;have HQZ:Hid (w.heap.size<((w.alloc (.cells (jY h m).toArray 28)).alloc (.cells (zL hx x).toArray 53)).heap.size):=zH (by omega);have HPZ:Hid (w.heap.size+1<((w.alloc (.cells (jY h m).toArray 28)).alloc (.cells (zL hx x).toArray 53)).heap.size):=zH (by omega);have HZw:Hid (w.heap.size≤((w.alloc (.cells (jY h m).toArray 28)).alloc (.cells (zL hx x).toArray 53)).heap.size):=zH (by omega);have m1:=hu.a;have m2:=hu.l;have m3:=H'.phi.le;have m3c:=H'.phi.cap;have m4:=H'.code.le;have m4c:=H'.code.cap;clear hq hp hb hz H H' hk ht hu hs;go_enter Tryz.func87,Tryz.ntmps87;go_upto_region 1 with fail
 generalize(w.alloc (.cells (jY h m).toArray 28)).alloc (.cells (zL hx x).toArray 53)=w1 at*
 have HX:Hid (Below w1.heap.size w1 w1):=zH (zb _ _);obtain⟨A0x,A1x,A4x,A7x,k0x,k1x,k4x,k7x⟩:=hx;have HMC:=zH HM.out.code;dsimp only at m1 m2 m3 m3c m4 m4c HMC;obtain⟨kq0,kq1,kq2,kq3,kq4,kq5,kq6⟩:=qt (HQ.out.keep HX.out HQZ.out);obtain⟨kp0,kp1,kp2,kp3,kp4,kp5,kp6,kp7⟩:=ck8 (HP.out.keep HX.out HPZ.out);dsimp only at kp0 kp1 kp2 kp3 kp4 kp5 kp6 kp7;by_cases c1:¬x.code.length=0;rotate_left
 ·have ct1:((x.code.length:Int)==0)=true:=X6.mpr (by omega);have E2:=zH (show vG m x=false by unfold vG;rw[Xf (by simpa using c1)];rfl);exact q36
 have ct1:((x.code.length:Int)==0)=false:=XK.mpr (by omega);have Cc1:=zH c1;clear c1;by_cases c2:x.phi.length=x.code.length;rotate_left
 ·have ct2:((x.phi.length:Int) !=(x.code.length:Int))=true:=bne_iff_ne.mpr (by omega);have E2:=zH (show vG m x=false by unfold vG;rw[Xf (p:=x.phi.length=x.code.length) c2];simp);exact q36
 have ct2:((x.phi.length:Int) !=(x.code.length:Int))=false:=bne_eq_false_iff_eq.mpr (by omega);have Cc2:=zH c2;clear c2;by_cases c3:x.args.length+x.locals.length≤8;rotate_left
 ·have ct3:(8:Int)<(x.args.length:Int)+(x.locals.length:Int):=by omega
  have E2:=zH (show vG m x=false by unfold vG;rw[Xf (p:=x.args.length+x.locals.length≤8) c3];simp);exact q36
 have ct3:¬(8:Int)<(x.args.length:Int)+(x.locals.length:Int):=by omega
 have Cc3:=zH c3;clear c3;go_wp2_with((go_at_call 132;(with_reducible refine(q4r (hx:=⟨A0x,A1x,A4x,A7x,k0x,k1x,k4x,k7x⟩) HU).mono ?_);rintro e w5 ⟨rfl,hb⟩;have HX:=zl HX hb;obtain⟨kq0,kq1,kq2,kq3,kq4,kq5,kq6⟩:=qt (HQ.out.keep HX.out HQZ.out);obtain⟨kp0,kp1,kp2,kp3,kp4,kp5,kp6,kp7⟩:=ck8 (HP.out.keep HX.out HPZ.out);clear hb))
 go_loopw [30] (fun i wr=>∃k:Nat,k≤x.code.length∧i= .int .i64 k∧Hid (∀i ∈x.code.take k,zC m x i.1 i.2.1 i.2.2=true)∧Hid (Below w1.heap.size w1 wr)) (fun i _=>x.code.length - (intOf i).toNat)
 case atStart=>exact⟨0,by omega,rfl,zH (by simp),HX⟩
 case round=>
  clear HX kq0 kq1 kq2 kq3 kq4 kq5 kq6 kp0 kp1 kp2 kp3 kp4 kp5 kp6 kp7;obtain⟨k,hk,rfl,HN,HX⟩:=hrel;obtain⟨kq0,kq1,kq2,kq3,kq4,kq5,kq6⟩:=qt (HQ.out.keep HX.out HQZ.out);obtain⟨kp0,kp1,kp2,kp3,kp4,kp5,kp6,kp7⟩:=ck8 (HP.out.keep HX.out HPZ.out);by_cases hlt:k<x.code.length
  ·obtain⟨ad,rfl,hab,hc⟩:=HMC.out.row.at_ hlt;have HNO:=zH (fun g:(fun i:Int×Int×Int=>zC m x i.1 i.2.1 i.2.2) x.code[k]=false=>(vb hlt g:ZM m x=false));have HYE:=zH (fun g:(fun i:Int×Int×Int=>zC m x i.1 i.2.1 i.2.2) x.code[k]=true=>jT hlt HN.out g);have H0:=zH (HU.out.c _ (Xd hlt));generalize x.code[k]=ins at*
   obtain⟨op,a,b⟩:=ins;have HR:Hid (∀W,Below w1.heap.size w1 W→W.cell? (ad.add (k*3))=some (.int .i64 op)∧W.cell? (zc (ad.add (k*3)) 1)=some (.int .i64 a)∧W.cell? (zc (ad.add (k*3)) 2)=some (.int .i64 b)):=zH (fun W hW=>jb.keeps (x:=(op,a,b)) hc (by rw[zp];exact hab) (zn _) (fun _ hq=>hW.cell hq));obtain⟨t0,t1,t2⟩:=HR.out _ HX.out;have HM2:=HM;go_upto_region 6 with fail
   have HIB:=zH (qa wr [.int .i64 op,.int .i64 a,.int .i64 b] 55);have HX:=zH (HX.out.alloc HX.out.size (.cells ([.int .i64 op,.int .i64 a,.int .i64 b]:List Value).toArray 55));clear kq0 kq1 kq2 kq3 kq4 kq5 kq6 kp0 kp1 kp2 kp3 kp4 kp5 kp6 kp7 t0 t1 t2;have HIB:Hid (zW (wr.alloc (.cells ([.int .i64 op,.int .i64 a,.int .i64 b]:List Value).toArray 55)) wr.heap.size [.int .i64 op,.int .i64 a,.int .i64 b]):=HIB;generalize wr.alloc (.cells ([.int .i64 op,.int .i64 a,.int .i64 b]:List Value).toArray 55)=w4 at*
   generalize wr.heap.size=gi at*
   obtain⟨i0,i1,i2⟩:=zM HIB.out;obtain⟨kq0,kq1,kq2,kq3,kq4,kq5,kq6⟩:=qt (HQ.out.keep HX.out HQZ.out);obtain⟨kp0,kp1,kp2,kp3,kp4,kp5,kp6,kp7⟩:=ck8 (HP.out.keep HX.out HPZ.out);have HXa:=HX;obtain⟨g,hg⟩:∃g,zC m x op a b=g:=⟨_,rfl⟩
   have G:=zH hg;clear hg hc;cases g
   ·have E2:=zH (show vG m x=false by unfold vG;rw[show ZM m x=false from HNO.out G.out];simp);go_wp2_with((go_at_call 133;(with_reducible refine(qag HI HM2 HK HXa HT HU HS H0 G).mono ?_);rintro e w5 ⟨rfl,hb⟩;have HX:=zl HXa hb;obtain⟨kq0,kq1,kq2,kq3,kq4,kq5,kq6⟩:=qt (HQ.out.keep HX.out HQZ.out);obtain⟨kp0,kp1,kp2,kp3,kp4,kp5,kp6,kp7⟩:=ck8 (HP.out.keep HX.out HPZ.out);clear hb))
    go_ret;exact⟨by rw[E2.out];rfl,HW.out.trans (HX.out.mono HZw.out)⟩
   ·have E2:=zH (HYE.out G.out);go_wp2_with((go_at_call 133;(with_reducible refine(qag HI HM2 HK HXa HT HU HS H0 G).mono ?_);rintro e w5 ⟨rfl,hb⟩;have HX:=zl HXa hb;obtain⟨kq0,kq1,kq2,kq3,kq4,kq5,kq6⟩:=qt (HQ.out.keep HX.out HQZ.out);obtain⟨kp0,kp1,kp2,kp3,kp4,kp5,kp6,kp7⟩:=ck8 (HP.out.keep HX.out HPZ.out);clear hb))
    go_roundw;case rel=>exact⟨k+1,by omega,by go_num,E2,HX⟩
    case measure=>simp[intOf];omega
  ·have HCA:=zH (show ZM m x=true from vc (l:=x.code) HN.out (by omega));have E2:=zH (show vG m x=true by unfold vG;rw[HCA.out,Xh Cc1.out,Xh Cc2.out,Xh Cc3.out];rfl);go_wp2_with fail
   go_ret;exact⟨by rw[E2.out];rfl,HW.out.trans (HX.out.mono HZw.out)⟩
end Go.Proofs.YtcmiljnbmgkdnaaGreat
