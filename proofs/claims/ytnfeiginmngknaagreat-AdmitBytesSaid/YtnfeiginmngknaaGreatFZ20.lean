import Derived.Test.YtnfeiginmngknaaGreatFZ19
namespace Go.Proofs.YtnfeiginmngknaaGreat
set_option maxRecDepth 100000
set_option linter.unusedVariables false
set_option linter.unusedSimpArgs false
open Go.ChangeShapes Go.WideShapes Go.ChangeAt Go.RowKit
theorem qd5:(Tryz.prog.info? 4).map (fun i=>(i.zero,i.size,i.bytes))=some (some (.bool false),1,1):=by kernel_rfl
theorem q89:(Tryz.prog.info? 152).map (fun i=>(i.zero,i.size,i.bytes))=some (some (.slice none 0 0),1,24):=by kernel_rfl
theorem qU.hole_at{w:World}{gO n k:Nat}{G:List Nat}{W:List (List Bool)}(h:qU w gO n G W)(hk:G.length=k)(hi:k<n):w.cell? ⟨gO,k,none⟩=some (.slice none 0 0):=
 h.blk.cells _ _ (by
  subst hk;unfold sqV;rw[XN (by rw[Xm];exact zn _),Xm,Nat.sub_self,List.getElem?_replicate,Xb (by omega)])
theorem qU.nil{w:World}{gO n:Nat}(h:zm w gO (List.replicate n (.slice none 0 0)) 152):qU w gO n [] []:=
 ⟨by simpa[sqV]using h,rfl,fun i g r hg=>by simp at hg,by simp,fun g hg=>by simp at hg⟩
theorem qU.row_get{w:World}{gO n i g:Nat}{G:List Nat}{W:List (List Bool)}(h:qU w gO n G W)(hg:G[i]? =some g):w.cell? ⟨gO,i,none⟩=some (.slice (some ⟨g,0,none⟩) n n):=by
 obtain⟨hi,rfl⟩:=Xv.mp hg;exact h.row_at hi
theorem qU.bit_get{w:World}{gO n i j g:Nat}{G:List Nat}{W:List (List Bool)}(h:qU w gO n G W)(hg:G[i]? =some g)(hj:j<n):w.cell? ⟨g,j,none⟩=some (.bool (qw W i j)):=by
 obtain⟨hi,rfl⟩:=Xv.mp hg;exact h.bit_at hi hj
theorem qU.free_get{w:World}{gO n i g:Nat}{G:List Nat}{W:List (List Bool)}(h:qU w gO n G W)(hg:G[i]? =some g)(j:Nat):w.frozen? ⟨g,j,none⟩=false:=by
 obtain⟨hi,rfl⟩:=Xv.mp hg;exact(h.row_in hi).1.free j
theorem qU.set_get{w:World}{gO n i j g:Nat}{G:List Nat}{W:List (List Bool)}(h:qU w gO n G W)(hg:G[i]? =some g)(b:Bool):qU (w.setCell ⟨g,j,none⟩ (.bool b)) gO n G (Qs W i j b):=by
 obtain⟨hi,rfl⟩:=Xv.mp hg;exact h.set hi b
theorem qU.lt{w:World}{gO n:Nat}{G:List Nat}{W:List (List Bool)}(h:qU w gO n G W):∀g ∈G,g<w.heap.size:=fun g hg=>by
 obtain⟨i,hi,rfl⟩:=We hg;exact(h.row_in hi).1.lt
theorem qiy{i j i' j':Nat}{W:List (List Bool)}(hl:i<W.length)(hr:j<(W[i]?.getD []).length)(b:Bool):qw (Qs W i j b) i' j'=if i'=i/\j'=j then b else qw W i' j':=by
 unfold qw Qs;rw[Wf];by_cases hii:i=i'
 ·subst hii;rw[Xb rfl,Xb hl,Wo,Wf];by_cases hjj:j=j'
  ·subst hjj;rw[Xb rfl,Xb hr,Xb ⟨rfl,rfl⟩];rfl
  ·rw[Xa hjj,Xa (fun q=>hjj q.2.symm)]
 ·rw[Xa hii,Xa (fun q=>hii q.1.symm)]
def aK(EL:List (List Int))(n k:Nat)(L:List Int)(q:Nat)(X:List (List Bool)):Prop:=∀a b:Nat,a<k+1->b<n->(qw X a b=true↔((a<k/\kV EL a b)\/(a=k/\(b:Int) ∈L.take q)))
theorem aK.start{EL:List (List Int)}{n k:Nat}{L:List Int}{W:List (List Bool)}(hk:W.length=k)(h:∀a b:Nat,a<k->b<n->(qw W a b=true↔kV EL a b)):aK EL n k L 0 (W++[List.replicate n false]):=fun a b ha hb=>by
 rcases Xl a k with q|q
 ·have e:qw (W++[List.replicate n false]) a b=qw W a b:=by unfold qw;rw[XO (by omega)]
  rw[e,h a b q hb];exact⟨fun x=> .inl ⟨q,x⟩,fun x=>by rcases x with⟨_,x⟩|⟨x,_⟩;exact x;omega⟩
 ·obtain rfl:a=k:=by omega
  have e:qw (W++[List.replicate n false]) a b=false:=by
   unfold qw
   rw[XN (by omega),hk,Nat.sub_self];simp[List.getElem?_replicate,hb]
  rw[e];simp
theorem aK.no{EL:List (List Int)}{n k q:Nat}{L:List Int}{X:List (List Bool)}{u:Int}(h:aK EL n k L q X)(hu:L[q]? =some u)(hn:u<0\/(n:Int)<=u):aK EL n k L (q+1) X:=fun a b ha hb=>by
 rw[h a b ha hb,Xx,hu];have:¬(b:Int)=u:=by omega
 simp[this]
theorem aK.yes{EL:List (List Int)}{n k q U:Nat}{L:List Int}{X:List (List Bool)}(h:aK EL n k L q X)(hu:L[q]? =some (U:Int))(hl:k<X.length)(hr:U<(X[k]?.getD []).length):aK EL n k L (q+1) (Qs X k U true):=fun a b ha hb=>by
 rw[qiy hl hr,Xx,hu];by_cases e:a=k/\b=U
 ·rw[Xb e];simp[e.1,e.2]
 ·rw[Xa e,h a b ha hb];by_cases ea:a=k
  ·have:¬(b:Int)=(U:Int):=fun q=>e ⟨ea,by omega⟩;simp[ea,this]
  ·simp[ea]
theorem aK.end_{EL:List (List Int)}{n k:Nat}{L:List Int}{X:List (List Bool)}(h:aK EL n k L L.length X)(hL:EL[k]?.getD []=L):∀a b:Nat,a<k+1->b<n->(qw X a b=true↔kV EL a b):=fun a b ha hb=>by
 rw[h a b ha hb,XL];rcases Xl a k with q|q
 ·exact⟨fun x=>by rcases x with⟨_,x⟩|⟨x,_⟩;exact x;omega,fun x=> .inl ⟨q,x⟩⟩
 ·obtain rfl:a=k:=by omega
  unfold kV;rw[hL];exact⟨fun x=>by rcases x with⟨x,_⟩|⟨_,x⟩;omega;exact x,fun x=> .inr ⟨rfl,x⟩⟩
def qkh(EL:List (List Int))(n:Nat)(w:World)(e:Ending)(w':World):Prop:=∃gO G W,e= .returned (.slice (some ⟨gO,0,none⟩) n n)/\Below w.heap.size w w'/\qU w' gO n G W/\G.length=n/\VE EL n n W/\w.heap.size<=gO/\∀g ∈G,w.heap.size<=g
set_option maxHeartbeats 3200000 in
theorem qbg(EL:List (List Int))(n:Nat)(A:Option Addr)(c:Nat)(w:World)(h:zd (zM zu 1) 1 w w.heap.size A c EL)(hn:EL.length=n)(hl:n<=1000):
  Calls Tryz.prog 94 #[.slice A n c] w (qkh EL n w):=by
 obtain⟨i0,hi0,hz0,hz1,hz2⟩:=jJ q89;obtain⟨i1,hi1,hy0,hy1,hy2⟩:=jJ qd5;have HE:=zH h;have HN:=zH hn;clear h hn;go_enter Tryz.func94,Tryz.ntmps94;go_upto_region 3 with(at_make;refine wpList_make_full _ rfl _ _ 150 rfl w.heap.size 152 i0 (.slice none 0 0) 1 Tryz.underlying150 hi0 hz0 hz1 .i64 .i64 _ _ n rfl rfl rfl rfl (by rw[hz2];omega) (by unfold maxLen;omega) (zn _) ?_;intro w2 hown hgrow;have qm:=zH hown;have HB2:=zH ((zb w.heap.size w).grown hgrow (zn _) (fun k hk=>by cases hk));clear hown hgrow)
 have kx:Hid (qU w2 w.heap.size n [] []):=zH (qU.nil (by have h1:=o5 qm.out;rw[mi (v:= .slice none 0 0) rfl]at h1;exact h1));have HG2:Hid (w.heap.size<w2.heap.size):=zH (kx.out.blk.lt);clear qm;go_wp2_with fail
 go_loopw [5] (fun i wr=>∃(k:Nat) (G:List Nat) (W:List (List Bool)),k<=n/\i= .int .i64 k/\Hid (G.length=k)/\Hid (qU wr w.heap.size n G W)/\Hid (Below w.heap.size w wr)/\Hid (∀g ∈G,w.heap.size<=g)/\Hid (∀a b:Nat,a<k->b<n->(qw W a b=true↔kV EL a b))) (fun i _=>n - (intOf i).toNat)
 case atStart=>exact⟨0,[],[],by omega,rfl,zH rfl,kx,HB2,zH (fun g h=>by simp at h),zH (fun a b h=>by omega)⟩
 case round=>
  obtain⟨k,G,W,hk,rfl,HL,HQ,HX,HG,HW⟩:=hrel;have hsz:=HX.out.size;by_cases hlt:k<n
  ·have N9:k<EL.length:=by rw[HN.out];exact hlt
   obtain⟨Zt,rfl,oI,A1,cL,r0,jd⟩:=HE.out.row.at_ N9;obtain⟨L,hL⟩:=zj (EL[k]);rw[hL]at r0 jd;rw[Xq]at r0;have kL:Hid (EL[k]?.getD []=L):=zH (by rw[Xc N9,Wo,hL]);have iW:=zH jd;have ky:=zH r0;have hcL:=jd.cap;have hle1:=jd.le;clear hL r0 jd N9;go_upto_region 7 with(at_make;refine wpList_make_full _ rfl _ _ 152 rfl wr.heap.size 4 i1 (.bool false) 1 Tryz.underlying152 hi1 hy0 hy1 .i64 .i64 _ _ n rfl rfl rfl rfl (by rw[hy2];omega) (by unfold maxLen;omega) (zn _) ?_;intro w6 hown hgrow;have HO6:=zH hown;have Zk:=zH ((zb wr.heap.size wr).grown hgrow (zn _) (fun k hk=>by cases hk));have Yk:=zH (HQ.out.keep Zk.out);have c0:=Yk.out.hole_at HL.out hlt;have f0:=Yk.out.blk.free k;clear hown hgrow)
   have GA:Hid (qU (w6.setCell ⟨w.heap.size,k,none⟩ (.slice (some ⟨wr.heap.size,0,none⟩) n n)) w.heap.size n (G++[wr.heap.size]) (W++[List.replicate n false])):=zH (by
    have h1:=Yk.out.add (g:=wr.heap.size) (r:=List.replicate n false) (by rw[HL.out];exact hlt) (by simp) (by have h2:=o5 HO6.out;rw[mi (v:= .bool false) rfl]at h2;rw[List.map_replicate];exact h2) (fun x hx e=>by have:=HQ.out.lt x hx;omega) (fun e=>by have:=HQ.out.blk.lt;omega);rw[HL.out]at h1;exact h1)
   have Zf:Hid (Below w.heap.size w (w6.setCell ⟨w.heap.size,k,none⟩ (.slice (some ⟨wr.heap.size,0,none⟩) n n))):=zH ((HX.out.trans (Zk.out.mono hsz)).setCell (p:=⟨w.heap.size,k,none⟩) (zn _) _);have HW7:=zH (aK.start (L:=L) (by rw[<-HQ.out.len];exact HL.out) HW.out);have xu:Hid ((G++[wr.heap.size])[k]? =some wr.heap.size):=zH (by rw[XN (by rw[HL.out];exact zn _),HL.out,Nat.sub_self];rfl);clear c0 f0 Yk HO6 Zk HQ HX HW;generalize w6.setCell ⟨w.heap.size,k,none⟩ (.slice (some ⟨wr.heap.size,0,none⟩) n n)=w7 at*
   generalize wr.heap.size=gN at*
   go_wp2_with fail
   go_loopw [6] (fun e wi=>∃(q:Nat) (X:List (List Bool)),q<=L.length/\e= .int .i64 q/\Hid (qU wi w.heap.size n (G++[gN]) X)/\Hid (Below w.heap.size w wi)/\Hid (aK EL n k L q X)) (fun e _=>L.length - (intOf e).toNat)
   case atStart=>exact⟨0,_,by omega,rfl,GA,Zf,HW7⟩
   case round=>
    clear GA Zf HW7;obtain⟨q,X,hq,rfl,iP,HXi,Gh⟩:=hrel;have e0:=(HXi.out.cell (p:=Zt.add k) (by exact zZ oI)).trans ky.out;by_cases fV:q<L.length
    ·obtain⟨dN,rfl,qll,s0⟩:=iW.out.row.at_ fV;obtain⟨u,hu⟩:=zj (L[q]);rw[hu,Xq]at s0;have s1:=(HXi.out.cell (p:=dN.add q) (by exact zZ qll)).trans s0;have HU:Hid (L[q]? =some u):=zH (by rw[Xc fV,hu]);clear hu s0;by_cases hu0:0<=u
     ·obtain⟨U,rfl⟩:=Xj hu0;have i2:(U:Int) >= 0:=hu0;by_cases hun:U<n
      ·have i3:(U:Int)<n:=by omega
       have c0:=iP.out.row_get xu.out;have b1:=iP.out.bit_get xu.out hun;have f1:=iP.out.free_get xu.out U;go_wp2_with fail
       go_region
       go_wp2_with fail
       go_roundw;case rel=>exact⟨q+1,Qs X k U true,by omega,by go_num,zH ((iP.out.set_get xu.out true).keep (zb _ _).drew),zH (HXi.out.setCell (p:=⟨gN,U,none⟩) hsz _).drew,zH (Gh.out.yes HU.out (by rw[<-iP.out.len];exact(Xv.mp xu.out).1) (by rw[(iP.out.row_in (Xv.mp xu.out).1).2];exact hun))⟩
       case measure=>simp[intOf];omega
      ·have i3:¬(U:Int)<n:=by omega
       go_wp2_with fail
       go_roundw;case rel=>exact⟨q+1,X,by omega,by go_num,iP,HXi,zH (Gh.out.no HU.out (by omega))⟩
       case measure=>simp[intOf];omega
     ·have i2:¬u >= 0:=hu0;go_wp2_with fail
      go_roundw;case rel=>exact⟨q+1,X,by omega,by go_num,iP,HXi,zH (Gh.out.no HU.out (by omega))⟩
      case measure=>simp[intOf];omega
    ·obtain rfl:q=L.length:=by omega
     go_wp2_with fail
     go_roundw;case rel=>exact⟨k+1,G++[gN],X,by omega,by go_num,zH (by rw[Xh,HL.out];rfl),iP,HXi,zH (fun g hg=>by
      rcases Xu.mp hg with x|x
      ·exact HG.out g x
      ·simp at x;subst x;exact hsz),zH (Gh.out.end_ kL.out)⟩
     case measure=>simp[intOf];omega
  ·obtain rfl:n=k:=by omega
   have HWs:Hid (VE EL n 0 W):=zH (VE.first ⟨by rw[<-HQ.out.len];exact HL.out,fun r hr=>by
    obtain⟨i,hi,rfl⟩:=We hr;exact(HQ.out.rows i _ _ (Xc (by rw[HQ.out.len];exact hi)) (Xc hi)).2⟩ HW.out)
   clear HW;go_wp2_with fail
   go_loopw [7] (fun i wi=>∃(k:Nat) (X:List (List Bool)),k<=n/\i= .int .i64 k/\Hid (qU wi w.heap.size n G X)/\Hid (Below w.heap.size w wi)/\Hid (VE EL n k X)) (fun i _=>n - (intOf i).toNat)
   case atStart=>exact⟨0,W,by omega,rfl,HQ,HX,HWs⟩
   case round=>
    clear HQ HX HWs hsz;obtain⟨k,W1,hk,rfl,BS,Zq,HW1⟩:=hrel;by_cases hlt:k<n
    ·go_wp2_with fail
     go_loopw [8] (fun i wi=>∃(a:Nat) (X:List (List Bool)),a<=n/\i= .int .i64 a/\Hid (qU wi w.heap.size n G X)/\Hid (Below w.heap.size w wi)/\Hid (aH EL n k W1 X a 0)) (fun i _=>n - (intOf i).toNat)
     case atStart=>exact⟨0,W1,by omega,rfl,BS,Zq,zH HW1.out.start⟩
     case round=>
      clear BS Zq;obtain⟨a,X,ha,rfl,kx,HX2,Zl⟩:=hrel;by_cases halt:a<n
      ·go_wp2_with fail
       go_loopw [9] (fun i wi=>∃(b:Nat) (Y:List (List Bool)),b<=n/\i= .int .i64 b/\Hid (qU wi w.heap.size n G Y)/\Hid (Below w.heap.size w wi)/\Hid (aH EL n k W1 Y a b)) (fun i _=>n - (intOf i).toNat)
       case atStart=>exact⟨0,X,by omega,rfl,kx,HX2,Zl⟩
       case round=>
        clear kx HX2 Zl;obtain⟨b,Y,hb,rfl,kf,zp,Vm⟩:=hrel;by_cases hblt:b<n
        ·obtain⟨ga,um⟩:∃g,G[a]? =some g:=⟨_,Xc (by rw[HL.out];exact halt)⟩
         obtain⟨gk,Nt⟩:∃g,G[k]? =some g:=⟨_,Xc (by rw[HL.out];exact hlt)⟩
         have hle:=HG.out ga (Xr um);have hga:=zH um;have r1:=kf.out.row_get um;have r2:=kf.out.row_get Nt;have b1:=kf.out.bit_get um hblt;have b2:=kf.out.bit_get um hlt;have b3:=kf.out.bit_get Nt hblt;have f1:=kf.out.free_get um b;clear um Nt;obtain⟨v1,e1⟩:∃v,qw Y a b=v:=⟨_,rfl⟩
         obtain⟨v2,e2⟩:∃v,qw Y a k=v:=⟨_,rfl⟩
         obtain⟨v3,e3⟩:∃v,qw Y k b=v:=⟨_,rfl⟩
         have aW:=zH e1;have HE2:=zH e2;have VP:=zH e3;rw[e1]at b1;rw[e2]at b2;rw[e3]at b3;clear e1 e2 e3;cases v1
         ·cases v2
          ·go_wp2_with fail
           go_region
           go_wp2_with fail
           go_roundw;case rel=>exact⟨b+1,Qs Y a b false,by omega,by go_num,zH ((kf.out.set_get hga.out false).keep (zb _ _).drew),zH (zp.out.setCell (p:=⟨ga,b,none⟩) hle _).drew,zH (by have h1:=Vm.out.step hlt halt hblt;rw[aW.out,HE2.out]at h1;exact h1)⟩
           case measure=>simp[intOf];omega
          ·cases v3
           ·go_wp2_with fail
            go_region
            go_wp2_with fail
            go_roundw;case rel=>exact⟨b+1,Qs Y a b false,by omega,by go_num,zH ((kf.out.set_get hga.out false).keep (zb _ _).drew),zH (zp.out.setCell (p:=⟨ga,b,none⟩) hle _).drew,zH (by have h1:=Vm.out.step hlt halt hblt;rw[aW.out,HE2.out,VP.out]at h1;exact h1)⟩
            case measure=>simp[intOf];omega
           ·go_wp2_with fail
            go_region
            go_wp2_with fail
            go_roundw;case rel=>exact⟨b+1,Qs Y a b true,by omega,by go_num,zH ((kf.out.set_get hga.out true).keep (zb _ _).drew),zH (zp.out.setCell (p:=⟨ga,b,none⟩) hle _).drew,zH (by have h1:=Vm.out.step hlt halt hblt;rw[aW.out,HE2.out,VP.out]at h1;exact h1)⟩
            case measure=>simp[intOf];omega
         ·go_wp2_with fail
          go_region
          go_wp2_with fail
          go_roundw;case rel=>exact⟨b+1,Qs Y a b true,by omega,by go_num,zH ((kf.out.set_get hga.out true).keep (zb _ _).drew),zH (zp.out.setCell (p:=⟨ga,b,none⟩) hle _).drew,zH (by have h1:=Vm.out.step hlt halt hblt;rw[aW.out]at h1;exact h1)⟩
          case measure=>simp[intOf];omega
        ·obtain rfl:n=b:=by omega
         go_wp2_with fail
         go_roundw;case rel=>exact⟨a+1,Y,by omega,by go_num,kf,zp,zH (Vm.out.next (zn _))⟩
         case measure=>simp[intOf];omega
      ·obtain rfl:n=a:=by omega
       go_wp2_with fail
       go_roundw;case rel=>exact⟨k+1,X,by omega,by go_num,kx,HX2,zH (aH.end_ HW1.out Zl.out hlt (zn _))⟩
       case measure=>simp[intOf];omega
    ·obtain rfl:n=k:=by omega
     go_wp2_with fail
     go_ret;exact⟨w.heap.size,G,W1,rfl,Zq.out,BS.out,HL.out,HW1.out,zn _,HG.out⟩
theorem Dm{l m:List (Int×Int)}{A A':Option Addr}{cap cap' n n':Nat}{w0 w:World}{r:Bool}(HL:Hid (zd zf 2 w0 w0.heap.size A cap l))(HM:Hid (zd zf 2 w0 w0.heap.size A' cap' m))(HX:Hid (Below w0.heap.size w0 w))(HN:Hid (l.length=n))(Db:Hid (m.length=n'))(HR:Hid (decide (l=m)=r)):
  Calls Tryz.prog 164 #[.slice A n cap,.slice A' n' cap'] w fun e w'=>e= .returned (.bool r)/\Below w.heap.size w w':=by
 obtain rfl:=HN.out;obtain rfl:=Db.out;have h:=q5g l m A A' cap cap' w0.heap.size w HX.out.size (HL.out.below_to zf.keeps HX.out (zn _)) (HM.out.below_to zf.keeps HX.out (zn _));rw[HR.out]at h;exact h
def cz(x y:zl):Bool:=decide (x.args.drop 1=y.args.drop 1)&& decide (x.ret=y.ret)
theorem q3k{P:Prop}(h:P:=by
 refine mT 0 (h:=mT 1 (h:=mT 2 (h:=mT 3 (h:=mT 4 (h:=mT 5 (h:= ?_))))));refine mR 6 (h:=fun K hK=> ?_);go_simp;(go_at_call 164;(with_reducible refine(Dm dK YE qf JD YM D5).mono ?_);rintro e w5 ⟨rfl,hb⟩;have HX:=zi qf hb;have hb0:w5.cell? ⟨w.heap.size,0,none⟩=some vf:=(by rw[dS];exact(je.out.keep HX.out Yc.out) 0 _ rfl);have hb2:=(je.out.keep HX.out Yc.out) 2 _ rfl;have hb3:=(je.out.keep HX.out Yc.out) 3 _ rfl;have hg0:w5.cell? ⟨w.heap.size+1,0,none⟩=some vg:=(by rw[dQ];exact(qR.out.keep HX.out bE.out) 0 _ rfl);have hg2:=(qR.out.keep HX.out bE.out) 2 _ rfl;have hg3:=(qR.out.keep HX.out bE.out) 3 _ rfl;clear hb)
 refine mK hK ⟨hb0,hb2,hb3,hg0,hg2,hg3⟩ (h:=fun hHeld=> ?_);clear hK K;refine mT 7 (h:=mU 8 (h:=mU 9 (h:=mU 10 (h:=mU 11 (h:=mU 12 (h:=mT 13 (h:=mT 14 (h:= ?_))))))));refine wpAnyH_done (by kernel_rfl) ?_ _;refine NoPanic.normal ?_;go_wp2_with fail
 go_ret;exact⟨by rw[E2.out];rfl,HW.out.trans (HX.out.mono Zp.out)⟩):P:=h
theorem Ik{P:Prop}(h:P:=by
 go_wp2_with fail
 go_ret;exact⟨by rw[E2.out];rfl,HW.out.trans (HX.out.mono Zp.out)⟩):P:=h
theorem Df{P:Prop}(h:P:=by
 cases d5
 ·have E2:=zH (show cz ⟨fa,fl,(qi,qB),fc,fd,fp,fh⟩ ⟨ga,gl,(jY,jW),gc,gd,gp,gh⟩=false by unfold cz;dsimp only;rw[D5.out];rfl);refine wp_region_noPanic ?_;refine wp_region_held_drew (S:=(fun w'=>w'.cell? ⟨w.heap.size,0,none⟩=some vf/\w'.cell? ⟨w.heap.size,2,none⟩=some (.int .i64 qi)/\w'.cell? ⟨w.heap.size,3,none⟩=some (.int .i64 qB)/\w'.cell? ⟨w.heap.size+1,0,none⟩=some vg/\w'.cell? ⟨w.heap.size+1,2,none⟩=some (.int .i64 jY)/\w'.cell? ⟨w.heap.size+1,3,none⟩=some (.int .i64 jW))) (by kernel_rfl) ⟨hb0,hb2,hb3,hg0,hg2,hg3⟩ (fun hHeld=> ?_);exact q3k
 ·by_cases hret:qi=jY/\qB=jW
  ·obtain⟨rfl,rfl⟩:=hret;have E2:=zH (show cz ⟨fa,fl,(qi,qB),fc,fd,fp,fh⟩ ⟨ga,gl,(qi,qB),gc,gd,gp,gh⟩=true by unfold cz;dsimp only;rw[D5.out,Xi (rfl:(qi,qB)=(qi,qB))];rfl);go_region_held3 (fun w'=>w'.cell? ⟨w.heap.size,0,none⟩=some vf/\w'.cell? ⟨w.heap.size,2,none⟩=some (.int .i64 qi)/\w'.cell? ⟨w.heap.size,3,none⟩=some (.int .i64 qB)/\w'.cell? ⟨w.heap.size+1,0,none⟩=some vg/\w'.cell? ⟨w.heap.size+1,2,none⟩=some (.int .i64 qi)/\w'.cell? ⟨w.heap.size+1,3,none⟩=some (.int .i64 qB)) (first|exact⟨hb0,hb2,hb3,hg0,hg2,hg3⟩) (first|(go_at_call 164;(with_reducible refine(Dm dK YE qf JD YM D5).mono ?_);rintro e w5 ⟨rfl,hb⟩;have HX:=zi qf hb;have hb0:w5.cell? ⟨w.heap.size,0,none⟩=some vf:=(by rw[dS];exact(je.out.keep HX.out Yc.out) 0 _ rfl);have hb2:=(je.out.keep HX.out Yc.out) 2 _ rfl;have hb3:=(je.out.keep HX.out Yc.out) 3 _ rfl;have hg0:w5.cell? ⟨w.heap.size+1,0,none⟩=some vg:=(by rw[dQ];exact(qR.out.keep HX.out bE.out) 0 _ rfl);have hg2:=(qR.out.keep HX.out bE.out) 2 _ rfl;have hg3:=(qR.out.keep HX.out bE.out) 3 _ rfl;clear hb))
   exact Ik
  ·have E2:=zH (show cz ⟨fa,fl,(qi,qB),fc,fd,fp,fh⟩ ⟨ga,gl,(jY,jW),gc,gd,gp,gh⟩=false by unfold cz;dsimp only;rw[Xf (show ¬(qi,qB)=(jY,jW)by simpa using hret)];simp);have qE:¬qi=jY\/(qi=jY/\¬qB=jW):=by omega
   clear hret;rcases qE with qE|⟨rfl,qE⟩
   ·go_region_held3 (fun w'=>w'.cell? ⟨w.heap.size,0,none⟩=some vf/\w'.cell? ⟨w.heap.size,2,none⟩=some (.int .i64 qi)/\w'.cell? ⟨w.heap.size,3,none⟩=some (.int .i64 qB)/\w'.cell? ⟨w.heap.size+1,0,none⟩=some vg/\w'.cell? ⟨w.heap.size+1,2,none⟩=some (.int .i64 jY)/\w'.cell? ⟨w.heap.size+1,3,none⟩=some (.int .i64 jW)) (first|exact⟨hb0,hb2,hb3,hg0,hg2,hg3⟩) (first|(go_at_call 164;(with_reducible refine(Dm dK YE qf JD YM D5).mono ?_);rintro e w5 ⟨rfl,hb⟩;have HX:=zi qf hb;have hb0:w5.cell? ⟨w.heap.size,0,none⟩=some vf:=(by rw[dS];exact(je.out.keep HX.out Yc.out) 0 _ rfl);have hb2:=(je.out.keep HX.out Yc.out) 2 _ rfl;have hb3:=(je.out.keep HX.out Yc.out) 3 _ rfl;have hg0:w5.cell? ⟨w.heap.size+1,0,none⟩=some vg:=(by rw[dQ];exact(qR.out.keep HX.out bE.out) 0 _ rfl);have hg2:=(qR.out.keep HX.out bE.out) 2 _ rfl;have hg3:=(qR.out.keep HX.out bE.out) 3 _ rfl;clear hb))
    exact Ik
   ·go_region_held3 (fun w'=>w'.cell? ⟨w.heap.size,0,none⟩=some vf/\w'.cell? ⟨w.heap.size,2,none⟩=some (.int .i64 qi)/\w'.cell? ⟨w.heap.size,3,none⟩=some (.int .i64 qB)/\w'.cell? ⟨w.heap.size+1,0,none⟩=some vg/\w'.cell? ⟨w.heap.size+1,2,none⟩=some (.int .i64 qi)/\w'.cell? ⟨w.heap.size+1,3,none⟩=some (.int .i64 jW)) (first|exact⟨hb0,hb2,hb3,hg0,hg2,hg3⟩) (first|(go_at_call 164;(with_reducible refine(Dm dK YE qf JD YM D5).mono ?_);rintro e w5 ⟨rfl,hb⟩;have HX:=zi qf hb;have hb0:w5.cell? ⟨w.heap.size,0,none⟩=some vf:=(by rw[dS];exact(je.out.keep HX.out Yc.out) 0 _ rfl);have hb2:=(je.out.keep HX.out Yc.out) 2 _ rfl;have hb3:=(je.out.keep HX.out Yc.out) 3 _ rfl;have hg0:w5.cell? ⟨w.heap.size+1,0,none⟩=some vg:=(by rw[dQ];exact(qR.out.keep HX.out bE.out) 0 _ rfl);have hg2:=(qR.out.keep HX.out bE.out) 2 _ rfl;have hg3:=(qR.out.keep HX.out bE.out) 3 _ rfl;clear hb))
    exact Ik):P:=h
set_option maxHeartbeats 6400000 in
theorem q6e(x y:zl)(hx hy:qH)(w:World)(H:jR w w.heap.size hx x)(H':jR w w.heap.size hy y)(hfp:0<x.args.length)(QZ:0<y.args.length):
  Calls Tryz.prog 135 #[ZD hx x,ZD hy y] w fun e w'=>e= .returned (.bool (cz x y))/\Below w.heap.size w w':=by
 obtain⟨hq,hp,hb,hz⟩:=Dy w (qj hx x) (qj hy y) 48 48;have je:=zH hq;have qR:=zH hp;have HW:=zH hb;have dE:=zH (H.now hb).args;have dz:=zH (H'.now hb).args;have Yc:Hid (w.heap.size<((w.alloc (.cells (qj hx x).toArray 48)).alloc (.cells (qj hy y).toArray 48)).heap.size):=zH (by omega);have bE:Hid (w.heap.size+1<((w.alloc (.cells (qj hx x).toArray 48)).alloc (.cells (qj hy y).toArray 48)).heap.size):=zH (by omega);have Zp:Hid (w.heap.size<=((w.alloc (.cells (qj hx x).toArray 48)).alloc (.cells (qj hy y).toArray 48)).heap.size):=zH (by omega);have hj0:=H.args.le;have Nl:=H.args.cap;have hi0:=H'.args.le;have qlf:=H'.args.cap;clear hq hp hb hz H H';go_enter Tryz.func135,Tryz.ntmps135;go_upto_region 1 with fail
 generalize(w.alloc (.cells (qj hx x).toArray 48)).alloc (.cells (qj hy y).toArray 48)=w1 at*
 obtain⟨Vn,bg,bB,bH,j0,j1,j4,j7⟩:=hx;obtain⟨ag,ai,au,ae,i0,i1,i4,i7⟩:=hy;obtain⟨fa,fl,⟨qi,qB⟩,fc,fd,fp,fh⟩:=x;obtain⟨ga,gl,⟨jY,jW⟩,gc,gd,gp,gh⟩:=y;dsimp only at*
 obtain⟨kH,rfl,_,_⟩:=dE.out.row.at_ hfp;obtain⟨Qh,rfl,_,_⟩:=dz.out.row.at_ QZ;obtain⟨vf,dS⟩:∃v,v=Value.slice (some kH) fa.length j0:=⟨_,rfl⟩
 obtain⟨vg,dQ⟩:∃v,v=Value.slice (some Qh) ga.length i0:=⟨_,rfl⟩
 have hb0:w1.cell? ⟨w.heap.size,0,none⟩=some vf:=by rw[dS];exact je.out 0 _ rfl
 have hb2:=je.out 2 _ rfl;have hb3:=je.out 3 _ rfl;have hg0:w1.cell? ⟨w.heap.size+1,0,none⟩=some vg:=by rw[dQ];exact qR.out 0 _ rfl
 have hg2:=qR.out 2 _ rfl;have hg3:=qR.out 3 _ rfl;have qf:Hid (Below w1.heap.size w1 w1.drew):=zH (zb _ _).drew;have hf1:(1:Int)<=(fa.length:Int):=by omega
 have hf2:1<=fa.length:=hfp;have hf3:(fa.length:Int)<=(j0:Int):=by omega
 have hg1':(1:Int)<=(ga.length:Int):=by omega
 have qlg:1<=ga.length:=QZ;have hg3':(ga.length:Int)<=(i0:Int):=by omega
 obtain⟨d5,hd5⟩:∃d,decide (fa.drop 1=ga.drop 1)=d:=⟨_,rfl⟩
 have D5:=zH hd5;clear hd5;by_cases hj1:j0=1
 ·subst hj1;have dK:=zH (uR dE.out hfp);by_cases hi1:i0=1
  ·subst hi1;have YE:=zH (uR dz.out QZ);have JD:Hid ((fa.drop 1).length=0):=zH (by rw[XK];omega);have YM:Hid ((ga.drop 1).length=0):=zH (by rw[XK];omega);exact Df
  ·have YE:=zH (ww dz.out QZ);have JD:Hid ((fa.drop 1).length=0):=zH (by rw[XK];omega);have YM:Hid ((ga.drop 1).length=ga.length - 1):=zH XK;exact Df
 ·have dK:=zH (ww dE.out hfp);by_cases hi1:i0=1
  ·subst hi1;have YE:=zH (uR dz.out QZ);have JD:Hid ((fa.drop 1).length=fa.length - 1):=zH XK;have YM:Hid ((ga.drop 1).length=0):=zH (by rw[XK];omega);exact Df
  ·have YE:=zH (ww dz.out QZ);have JD:Hid ((fa.drop 1).length=fa.length - 1):=zH XK;have YM:Hid ((ga.drop 1).length=ga.length - 1):=zH XK;exact Df
def Jo(m:za)(i:Nat)(x:zW):Bool:=decide ((Zw m x).length<=x.slots.length)&& Yp m (i:Int) (Zw m x) 0 x.slots
theorem q65{m:za}{c:Int}{ab:List Int}{k n:Nat}(h:Vy m c (n:Int)=false):ZB m c ab k (n:Int)=false:=by
 unfold Vy at h;unfold ZB
 grind
theorem Rm{m:za}{c:Int}{n:Nat}(h:Vy m c (n:Int)=true):∃f t r,m.methods[n]? =some f/\f.args=t::r/\zB (zy m.classes) 3 c t.1 t.2=true:=by
 unfold Vy at h
 grind
theorem Ta{m:za}{c:Int}{n:Nat}{h:zh}{w0 w:World}{r:Bool}(HI:Hid (zr w0 w0.heap.size h m))(HX:Hid (Below w0.heap.size w0 w))(HN:Hid (m.classes.length<=1000))(HR:Hid (Vy m c (n:Int)=r)):
  Calls Tryz.prog 134 #[zv h m,.int .i64 (n:Int),.int .i64 c] w fun e w'=>e= .returned (.bool r)/\Below w.heap.size w w':=by
 have H:=q5y m c n h w (HI.out.now HX.out) HN.out;rw[HR.out]at H;exact H
theorem Tn{x y:zl}{hx hy:qH}{w0 w:World}{r:Bool}(HM:Hid (jR w0 w0.heap.size hx x))(HM':Hid (jR w0 w0.heap.size hy y))(HX:Hid (Below w0.heap.size w0 w))(HP:Hid (0<x.args.length))(HP':Hid (0<y.args.length))(HR:Hid (cz x y=r)):
  Calls Tryz.prog 135 #[ZD hx x,ZD hy y] w fun e w'=>e= .returned (.bool r)/\Below w.heap.size w w':=by
 have H:=q6e x y hx hy w (HM.out.now HX.out) (HM'.out.now HX.out) HP.out HP'.out;rw[HR.out]at H;exact H
theorem qbf{m:za}{i:Nat}{x:zW}{h:zh}{w0 w:World}{ad:Addr}{AB:List Int}(HC:Hid (zd vw 3 w0 w0.heap.size h.A0 h.c0 m.classes))(HX:Hid (Below w0.heap.size w0 w))(HG:Hid (m.classes[i]? =some x))(HS:Hid (x.sup<m.classes.length))(HE:Hid (h.A0=some ad))(HA:Hid (Zw m x=AB)):
  Calls Tryz.prog 133 #[.slice (some ad) m.classes.length h.c0,.int .i64 (i:Int)] w (WZ w0 w AB):=by
 have H:=q6f m i x h w0 w HC.out HX.out HG.out HS.out;rw[HE.out,HA.out]at H;exact H
set_option maxHeartbeats 6400000 in
theorem q61(m:za)(x:zW)(i:Nat)(h:zh)(w:World)(H:zr w w.heap.size h m)(hx:m.classes[i]? =some x)(hs0:∀y ∈m.classes,∀s ∈y.slots,0<=s)(hsu:x.sup<m.classes.length)(hn:m.classes.length<=1000)
  (hq:∀q ∈Zw m x,0<=q/\∃g,m.methods[q.toNat]? =some g/\0<g.args.length):
  Calls Tryz.prog 101 #[zv h m,.int .i64 (i:Int)] w fun e w'=>e= .returned (.bool (Jo m i x))/\Below w.heap.size w w':=by
 obtain⟨hil,hxe⟩:=Xv.mp hx;have HW:=zH (vU (w:=w) (h:=h) (m:=m));have HBX:=zH (qd w h m);have HZ:Hid (w.heap.size<(w.alloc (ze h m)).heap.size):=zH (by simp);have HI:=zH (H.now HW.out);have Qe:=zH (H.now HW.out).classes;have HN:=zH hn;have oh:=zH hx;have QT:=zH (Xr hx);have aY:=zH hs0;have yz:=zH hq;have BU:=zH hsu;have l0:=H.classes.le;have BF:=H.classes.cap;have l3:=H.methods.le;have bz:=H.methods.cap;obtain⟨AB,Vh⟩:=zj (Zw m x);have qY:=zH Vh;clear H hn hx hxe hs0 hq hsu Vh;go_enter Tryz.func101,Tryz.ntmps101;go_upto_region 1 with fail
 generalize w.alloc (ze h m)=w1 at*
 obtain⟨q0,q1,q2,q3,q4,q5,q6⟩:=HBX.out;obtain⟨Vj,e0,q1c,hcl⟩:=HI.out.classes.row i x oh.out;obtain⟨_,_,⟨A2,k2,s2,hs2⟩,_⟩:=hcl;have oJ:=zH e0;have az:=zH hs2;have l5:=hs2.le;have l5c:=hs2.cap;have HS2:Hid (∀W,Below w1.heap.size w1 W->W.cell? (zc (Vj.add (i*3)) 2)=some (.slice A2 x.slots.length k2)):=zH (fun W hW=>(hW.cell (p:=zc (Vj.add (i*3)) 2) (by show(Vj.add _).block<_;rw[zC];exact q1c)).trans s2);rw[e0]at q0;clear e0 hs2 q1c;have hXd:Below w1.heap.size w1 w1.drew:=(zb _ _).drew;have qf:=zH hXd;clear hXd;go_region_held3 (fun w'=>w'.cell? ⟨w.heap.size,0,none⟩=some (.slice (some Vj) m.classes.length h.c0)/\w'.cell? (zc (Vj.add (i*3)) 2)=some (.slice A2 x.slots.length k2)) (first|exact⟨q0,s2⟩) (first|(go_at_call 133;(with_reducible refine(qbf Qe qf oh BU oJ qY).mono ?_);rintro e w3 ⟨A6,k6,rfl,Vh,rfl⟩))
 have HSA:=zH Vh;have l6:=Vh.le;have l6c:=Vh.cap;clear Vh;have HX:=qf;generalize w1.drew=w2 at*
 by_cases c3:AB.length<=x.slots.length;rotate_left
 ·have nR:(x.slots.length:Int)<(AB.length:Int):=by omega
  have E2:=zH (show Jo m i x=false by unfold Jo;rw[qY.out,Xf c3];rfl);go_wp2_with fail
  go_ret;exact⟨by rw[E2.out];rfl,HW.out.trans (HX.out.mono (Xg HZ.out))⟩
 have nR:¬(x.slots.length:Int)<(AB.length:Int):=by omega
 have C3:=zH c3;clear c3;go_wp2_with fail
 go_loopw [26] (fun i' wr=>∃k:Nat,k<=x.slots.length/\i'= .int .i64 k/\Hid (Yp m (i:Int) AB 0 x.slots=Yp m (i:Int) AB k (x.slots.drop k))/\Hid (Below w1.heap.size w1 wr)) (fun i' _=>x.slots.length - (intOf i').toNat)
 case atStart=>exact⟨0,by omega,rfl,zH rfl,HX⟩
 case round=>
  clear HX q0 q1 q2 q3 q4 q5 q6 s2 qf;obtain⟨k,hk,rfl,HK,HX⟩:=hrel;obtain⟨q0,q1,q2,q3,q4,q5,q6⟩:=HBX.out.keep HX.out HZ.out;by_cases hlt:k<x.slots.length
  ·obtain⟨xg,e2,BA,hcs⟩:=az.out.row.at_ hlt;have HKK:=zH (HK.out.trans (Rv hlt));have hs0:=aY.out x QT.out x.slots[k] (Xd hlt);rw[Xq]at hcs;rw[e2];have ks:=(HX.out.cell (p:=xg.add k) (by exact zZ BA)).trans hcs;generalize x.slots[k]=s at*
   obtain⟨n,rfl⟩:=Xj hs0;clear e2 hcs BA hs0;obtain⟨d4,hd4⟩:∃d,Vy m (i:Int) (n:Int)=d:=⟨_,rfl⟩
   have D4:=zH hd4;clear hd4;cases d4
   ·have SL:=zH (q65 (ab:=AB) (k:=k) D4.out);have E2:=zH (show Jo m i x=false by unfold Jo;rw[qY.out,HKK.out,SL.out];simp);go_wp2_with(go_at_call 134;(with_reducible refine(Ta HI HX HN D4).mono ?_);rintro e w3 ⟨rfl,hb⟩;have HX:=zi HX hb;obtain⟨q0,q1,q2,q3,q4,q5,q6⟩:=HBX.out.keep HX.out HZ.out;clear hb)
    go_ret;exact⟨by rw[E2.out];rfl,HW.out.trans (HX.out.mono (Xg HZ.out))⟩
   ·go_upto_region 9 with(go_at_call 134;(with_reducible refine(Ta HI HX HN D4).mono ?_);rintro e w3 ⟨rfl,hb⟩;have HX:=zi HX hb;obtain⟨q0,q1,q2,q3,q4,q5,q6⟩:=HBX.out.keep HX.out HZ.out;clear hb)
    by_cases hka:k<AB.length
    ·obtain⟨f,tf,rf,hfm,hfa,hsub⟩:=Rm D4.out;obtain⟨hnl,hfe⟩:=Xv.mp hfm;obtain⟨zE,e3,j6,hcm⟩:=HI.out.methods.row n f hfm;have bA:=zH hfm;have Zg:=zH hfa;have q2d:=zH hsub;have hfp:0<f.args.length:=by rw[hfa];simp
     obtain⟨hq0,gm,hgm,QZ⟩:=yz.out AB[k] (by rw[qY.out];exact Xd hka);have FO:=zH (Xc hka);obtain⟨sP,rfl,CJ,hcq⟩:=HSA.out.row.at_ hka;rw[Xq]at hcq;generalize AB[k]=qq at*
     obtain⟨q,rfl⟩:=Xj hq0;rw[Xo]at hgm;obtain⟨fV,_⟩:=Xv.mp hgm;obtain⟨QD,e6,BN,hcg⟩:=HI.out.methods.row q gm hgm;obtain rfl:zE=QD:=by rw[e3]at e6;injection e6
     have BD:=zH hgm;have uf:Hid (ZB m (i:Int) AB k (n:Int)=cz f gm):=zH (by
      rw[Rw (c:=(i:Int)) (ab:=AB) (k:=k) bA.out Zg.out q2d.out FO.out BD.out];unfold cz;rw[Zg.out];rfl)
     have VP:=zH e3;have MZ:Hid ((sP.add k).block<w1.heap.size):=zH (by exact zZ CJ);have Oz:Hid (w1.cell? (sP.add k)=some (.int .i64 (q:Int))):=zH hcq;have vH:Hid ((zE.add (n*8)).block<w1.heap.size):=zH (by exact zZ j6);have vz:Hid ((zE.add (q*8)).block<w1.heap.size):=zH (by exact zZ BN);rw[e3]at q3;clear e3 e6 hfm hgm hcq CJ j6 BN hfe hsub hfa Zg q2d bA BD FO hq0;obtain⟨fa,fl,⟨qi,qB⟩,fc,fd,fp,fh⟩:=f;obtain⟨⟨Vn,j0,f0,hf0⟩,⟨bg,j1,f1,hf1⟩,f2,f3,⟨bB,j4,f4,hf4⟩,f5,f6,⟨bH,j7,f7,hf7⟩⟩:=hcm;obtain⟨ga,gl,⟨jY,jW⟩,gc,gd,gp,gh⟩:=gm;obtain⟨⟨ag,i0,g0,hg0⟩,⟨ai,i1,g1,hg1⟩,g2,g3,⟨au,i4,g4,hg4⟩,g5,g6,⟨ae,i7,g7,iT⟩⟩:=hcg;have HMF:Hid (jR w1 w1.heap.size ⟨Vn,bg,bB,bH,j0,j1,j4,j7⟩ ⟨fa,fl,(qi,qB),fc,fd,fp,fh⟩):=zH ⟨hf0,hf1,hf4,hf7⟩;have HMG:Hid (jR w1 w1.heap.size ⟨ag,ai,au,ae,i0,i1,i4,i7⟩ ⟨ga,gl,(jY,jW),gc,gd,gp,gh⟩):=zH ⟨hg0,hg1,hg4,iT⟩;dsimp only at f0 f1 f2 f3 f4 f5 f6 f7 g0 g1 g2 g3 g4 g5 g6 g7 hfp QZ;have yw:Hid (0<(⟨fa,fl,(qi,qB),fc,fd,fp,fh⟩:zl).args.length):=zH hfp;have HPG:Hid (0<(⟨ga,gl,(jY,jW),gc,gd,gp,gh⟩:zl).args.length):=zH QZ;have jX:=zH (And.intro f0 (And.intro f1 (And.intro f2 (And.intro f3 (And.intro f4 (And.intro f5 (And.intro f6 f7)))))));have qX:=zH (And.intro g0 (And.intro g1 (And.intro g2 (And.intro g3 (And.intro g4 (And.intro g5 (And.intro g6 g7)))))));clear f0 f1 f2 f3 f4 f5 f6 f7 g0 g1 g2 g3 g4 g5 g6 g7 hf0 hf1 hf4 hf7 hg0 hg1 hg4 iT hfp QZ;have f0:=(HX.out.cell vH.out).trans jX.out.1;have f1:=(HX.out.cell (p:=zc (zE.add (n*8)) 1) vH.out).trans jX.out.2.1;have f2:=(HX.out.cell (p:=zc (zE.add (n*8)) 2) vH.out).trans jX.out.2.2.1;have f3:=(HX.out.cell (p:=zc (zE.add (n*8)) 3) vH.out).trans jX.out.2.2.2.1;have f4:=(HX.out.cell (p:=zc (zE.add (n*8)) 4) vH.out).trans jX.out.2.2.2.2.1;have f5:=(HX.out.cell (p:=zc (zE.add (n*8)) 5) vH.out).trans jX.out.2.2.2.2.2.1;have f6:=(HX.out.cell (p:=zc (zE.add (n*8)) 6) vH.out).trans jX.out.2.2.2.2.2.2.1;have f7:=(HX.out.cell (p:=zc (zE.add (n*8)) 7) vH.out).trans jX.out.2.2.2.2.2.2.2;have g0:=(HX.out.cell vz.out).trans qX.out.1;have g1:=(HX.out.cell (p:=zc (zE.add (q*8)) 1) vz.out).trans qX.out.2.1;have g2:=(HX.out.cell (p:=zc (zE.add (q*8)) 2) vz.out).trans qX.out.2.2.1;have g3:=(HX.out.cell (p:=zc (zE.add (q*8)) 3) vz.out).trans qX.out.2.2.2.1;have g4:=(HX.out.cell (p:=zc (zE.add (q*8)) 4) vz.out).trans qX.out.2.2.2.2.1;have g5:=(HX.out.cell (p:=zc (zE.add (q*8)) 5) vz.out).trans qX.out.2.2.2.2.2.1;have g6:=(HX.out.cell (p:=zc (zE.add (q*8)) 6) vz.out).trans qX.out.2.2.2.2.2.2.1;have g7:=(HX.out.cell (p:=zc (zE.add (q*8)) 7) vz.out).trans qX.out.2.2.2.2.2.2.2;have tF:=(HX.out.cell MZ.out).trans Oz.out;have qf:=zH HX.out.drew;have NK:(n:Int)<m.methods.length:=by omega
     have hql':(q:Int)<m.methods.length:=by omega
     have hkai:(k:Int)<(AB.length:Int):=by omega
     obtain⟨d5,hd5⟩:∃d,cz ⟨fa,fl,(qi,qB),fc,fd,fp,fh⟩ ⟨ga,gl,(jY,jW),gc,gd,gp,gh⟩=d:=⟨_,rfl⟩
     have D5:=zH hd5;rw[hd5]at uf;clear hd5;cases d5
     ·have E2:=zH (show Jo m i x=false by unfold Jo;rw[qY.out,HKK.out,uf.out];simp);go_region_held3 (fun w'=>w'.cell? ⟨w.heap.size,3,none⟩=some (.slice (some zE) m.methods.length h.c3)/\w'.cell? (sP.add k)=some (.int .i64 (q:Int))/\w'.cell? (zE.add (n*8))=some (.slice Vn fa.length j0)/\w'.cell? (zc (zE.add (n*8)) 1)=some (.slice bg fl.length j1)/\w'.cell? (zc (zE.add (n*8)) 2)=some (.int .i64 qi)/\w'.cell? (zc (zE.add (n*8)) 3)=some (.int .i64 qB)/\w'.cell? (zc (zE.add (n*8)) 4)=some (.slice bB fc.length j4)/\w'.cell? (zc (zE.add (n*8)) 5)=some (.int .i64 fd)/\w'.cell? (zc (zE.add (n*8)) 6)=some (.int .i64 fp)/\w'.cell? (zc (zE.add (n*8)) 7)=some (.slice bH fh.length j7)/\w'.cell? (zE.add (q*8))=some (.slice ag ga.length i0)/\w'.cell? (zc (zE.add (q*8)) 1)=some (.slice ai gl.length i1)/\w'.cell? (zc (zE.add (q*8)) 2)=some (.int .i64 jY)/\w'.cell? (zc (zE.add (q*8)) 3)=some (.int .i64 jW)/\w'.cell? (zc (zE.add (q*8)) 4)=some (.slice au gc.length i4)/\w'.cell? (zc (zE.add (q*8)) 5)=some (.int .i64 gd)/\w'.cell? (zc (zE.add (q*8)) 6)=some (.int .i64 gp)/\w'.cell? (zc (zE.add (q*8)) 7)=some (.slice ae gh.length i7)) (first|exact⟨q3,tF,f0,f1,f2,f3,f4,f5,f6,f7,g0,g1,g2,g3,g4,g5,g6,g7⟩) (first|(go_at_call 135;(with_reducible refine(Tn HMF HMG qf yw HPG D5).mono ?_);rintro e w5 ⟨rfl,hb⟩;have HX:=zi qf hb;obtain⟨q0,q1,q2,q3,q4,q5,q6⟩:=HBX.out.keep HX.out HZ.out;rw[VP.out]at q3;have tF:=(HX.out.cell MZ.out).trans Oz.out;have f0:=(HX.out.cell vH.out).trans jX.out.1;have f1:=(HX.out.cell (p:=zc (zE.add (n*8)) 1) vH.out).trans jX.out.2.1;have f2:=(HX.out.cell (p:=zc (zE.add (n*8)) 2) vH.out).trans jX.out.2.2.1;have f3:=(HX.out.cell (p:=zc (zE.add (n*8)) 3) vH.out).trans jX.out.2.2.2.1;have f4:=(HX.out.cell (p:=zc (zE.add (n*8)) 4) vH.out).trans jX.out.2.2.2.2.1;have f5:=(HX.out.cell (p:=zc (zE.add (n*8)) 5) vH.out).trans jX.out.2.2.2.2.2.1;have f6:=(HX.out.cell (p:=zc (zE.add (n*8)) 6) vH.out).trans jX.out.2.2.2.2.2.2.1;have f7:=(HX.out.cell (p:=zc (zE.add (n*8)) 7) vH.out).trans jX.out.2.2.2.2.2.2.2;have g0:=(HX.out.cell vz.out).trans qX.out.1;have g1:=(HX.out.cell (p:=zc (zE.add (q*8)) 1) vz.out).trans qX.out.2.1;have g2:=(HX.out.cell (p:=zc (zE.add (q*8)) 2) vz.out).trans qX.out.2.2.1;have g3:=(HX.out.cell (p:=zc (zE.add (q*8)) 3) vz.out).trans qX.out.2.2.2.1;have g4:=(HX.out.cell (p:=zc (zE.add (q*8)) 4) vz.out).trans qX.out.2.2.2.2.1;have g5:=(HX.out.cell (p:=zc (zE.add (q*8)) 5) vz.out).trans qX.out.2.2.2.2.2.1;have g6:=(HX.out.cell (p:=zc (zE.add (q*8)) 6) vz.out).trans qX.out.2.2.2.2.2.2.1;have g7:=(HX.out.cell (p:=zc (zE.add (q*8)) 7) vz.out).trans qX.out.2.2.2.2.2.2.2;clear hb))
      go_wp2_with fail
      go_ret;exact⟨by rw[E2.out];rfl,HW.out.trans (HX.out.mono (Xg HZ.out))⟩
     ·have yo:=zH (HKK.out.trans (by rw[uf.out,Bool.true_and]));go_region_held3 (fun w'=>w'.cell? ⟨w.heap.size,3,none⟩=some (.slice (some zE) m.methods.length h.c3)/\w'.cell? (sP.add k)=some (.int .i64 (q:Int))/\w'.cell? (zE.add (n*8))=some (.slice Vn fa.length j0)/\w'.cell? (zc (zE.add (n*8)) 1)=some (.slice bg fl.length j1)/\w'.cell? (zc (zE.add (n*8)) 2)=some (.int .i64 qi)/\w'.cell? (zc (zE.add (n*8)) 3)=some (.int .i64 qB)/\w'.cell? (zc (zE.add (n*8)) 4)=some (.slice bB fc.length j4)/\w'.cell? (zc (zE.add (n*8)) 5)=some (.int .i64 fd)/\w'.cell? (zc (zE.add (n*8)) 6)=some (.int .i64 fp)/\w'.cell? (zc (zE.add (n*8)) 7)=some (.slice bH fh.length j7)/\w'.cell? (zE.add (q*8))=some (.slice ag ga.length i0)/\w'.cell? (zc (zE.add (q*8)) 1)=some (.slice ai gl.length i1)/\w'.cell? (zc (zE.add (q*8)) 2)=some (.int .i64 jY)/\w'.cell? (zc (zE.add (q*8)) 3)=some (.int .i64 jW)/\w'.cell? (zc (zE.add (q*8)) 4)=some (.slice au gc.length i4)/\w'.cell? (zc (zE.add (q*8)) 5)=some (.int .i64 gd)/\w'.cell? (zc (zE.add (q*8)) 6)=some (.int .i64 gp)/\w'.cell? (zc (zE.add (q*8)) 7)=some (.slice ae gh.length i7)) (first|exact⟨q3,tF,f0,f1,f2,f3,f4,f5,f6,f7,g0,g1,g2,g3,g4,g5,g6,g7⟩) (first|(go_at_call 135;(with_reducible refine(Tn HMF HMG qf yw HPG D5).mono ?_);rintro e w5 ⟨rfl,hb⟩;have HX:=zi qf hb;obtain⟨q0,q1,q2,q3,q4,q5,q6⟩:=HBX.out.keep HX.out HZ.out;rw[VP.out]at q3;have tF:=(HX.out.cell MZ.out).trans Oz.out;have f0:=(HX.out.cell vH.out).trans jX.out.1;have f1:=(HX.out.cell (p:=zc (zE.add (n*8)) 1) vH.out).trans jX.out.2.1;have f2:=(HX.out.cell (p:=zc (zE.add (n*8)) 2) vH.out).trans jX.out.2.2.1;have f3:=(HX.out.cell (p:=zc (zE.add (n*8)) 3) vH.out).trans jX.out.2.2.2.1;have f4:=(HX.out.cell (p:=zc (zE.add (n*8)) 4) vH.out).trans jX.out.2.2.2.2.1;have f5:=(HX.out.cell (p:=zc (zE.add (n*8)) 5) vH.out).trans jX.out.2.2.2.2.2.1;have f6:=(HX.out.cell (p:=zc (zE.add (n*8)) 6) vH.out).trans jX.out.2.2.2.2.2.2.1;have f7:=(HX.out.cell (p:=zc (zE.add (n*8)) 7) vH.out).trans jX.out.2.2.2.2.2.2.2;have g0:=(HX.out.cell vz.out).trans qX.out.1;have g1:=(HX.out.cell (p:=zc (zE.add (q*8)) 1) vz.out).trans qX.out.2.1;have g2:=(HX.out.cell (p:=zc (zE.add (q*8)) 2) vz.out).trans qX.out.2.2.1;have g3:=(HX.out.cell (p:=zc (zE.add (q*8)) 3) vz.out).trans qX.out.2.2.2.1;have g4:=(HX.out.cell (p:=zc (zE.add (q*8)) 4) vz.out).trans qX.out.2.2.2.2.1;have g5:=(HX.out.cell (p:=zc (zE.add (q*8)) 5) vz.out).trans qX.out.2.2.2.2.2.1;have g6:=(HX.out.cell (p:=zc (zE.add (q*8)) 6) vz.out).trans qX.out.2.2.2.2.2.2.1;have g7:=(HX.out.cell (p:=zc (zE.add (q*8)) 7) vz.out).trans qX.out.2.2.2.2.2.2.2;clear hb))
      go_wp2_with fail
      go_roundw;case rel=>exact⟨k+1,by omega,by go_num,yo,HX⟩
      case measure=>simp[intOf];omega
    ·have hd:decide ((k:Int)<(AB.length:Int))=false:=Xf (by omega);have hd':decide (k<AB.length)=false:=Xf hka;obtain⟨f,tf,rf,hfm,hfa,hsub⟩:=Rm D4.out;have yo:Hid (Yp m (i:Int) AB 0 x.slots=Yp m (i:Int) AB (k+1) (x.slots.drop (k+1))):=zH (HKK.out.trans (by rw[Te (c:=(i:Int)) (ab:=AB) (k:=k) hfm hfa hsub (by omega),Bool.true_and]));clear hfm hfa hsub;go_quiet (fail)
     go_wp2
     go_roundw;case rel=>exact⟨k+1,by omega,by go_num,yo,zH (jf HX.out _)⟩
     case measure=>simp[intOf];omega
  ·have E2:=zH (show Jo m i x=true by unfold Jo;rw[qY.out,HK.out,Wm (by omega),Xi C3.out];rfl);go_wp2_with fail
   go_ret;exact⟨by rw[E2.out];rfl,HW.out.trans (HX.out.mono (Xg HZ.out))⟩
