import Derived.Test.YtnfeiginmngknaaGreatFZ18
import Derived.Test.YtnfeiginmngknaaGreatFZ08
namespace Go.Proofs.YtnfeiginmngknaaGreat
set_option maxRecDepth 100000
set_option linter.unusedVariables false
set_option linter.unusedSimpArgs false
open Go.ChangeShapes Go.WideShapes Go.ChangeAt Go.RowKit
theorem q3s(m:za)(op a b:Int)(h:zh)(w:World)(H:zr w w.heap.size h m)(hn:m.classes.length<=1000):
  Calls Tryz.prog 42 #[zv h m,qt op a b] w (ZR (qC m op a b) w):=by
 by_cases h31:op=31
 ·subst h31;exact q3e m a b h w
 by_cases h32:op=32
 ·subst h32;exact q3c m a b h w H hn
 exact q3d m op a b h31 h32 h w
theorem IC{m:za}{op a b:Int}{h:zh}{w0 w:World}{L:List Int}(HI:Hid (zr w0 w0.heap.size h m))(HX:Hid (Below w0.heap.size w0 w))(HN:Hid (m.classes.length<=1000))(HL:Hid (qC m op a b=L)):
  Calls Tryz.prog 42 #[zv h m,qt op a b] w (ZR L w):=by
 have H:=q3s m op a b h w (HI.out.now HX.out) HN.out;rw[HL.out]at H;exact H
def VC(m:za)(x:zl)(g:Int):Bool:= !(x.code.all fun i=> !qb (qC m i.1 i.2.1 i.2.2) g)
theorem Iw(m:za)(op a b:Int)(hn:m.classes.length<=1000):(qC m op a b).length<=1000:=by
 unfold qC;by_cases h1:op=31
 ·rw[Xb h1];exact(show 1<=1000 by decide)
 rw[Xa h1];by_cases h2:op=32
 ·rw[Xb h2];exact Xe (IA _ _ _) (Xe (uN _ _ _) hn)
 ·rw[Xa h2];exact Xn _
set_option maxHeartbeats 3200000 in
theorem q6z(m:za)(x:zl)(f:Nat)(g:Int)(h:zh)(w:World)(H:zr w w.heap.size h m)(hg:m.methods[f]? =some x)(hn:m.classes.length<=1000)(ha:x.code.length<=1048576):
  Calls Tryz.prog 40 #[zv h m,.int .i64 f,.int .i64 g] w fun e w'=>e= .returned (.bool (VC m x g))/\Below w.heap.size w w':=by
 have hk:f<m.methods.length:=(Xv.mp hg).1;have hx:m.methods[f]=x:=(Xv.mp hg).2;have hle:=H.methods.le;have hcap:=H.methods.cap;obtain⟨ad,hx',eA,hab,hin,hc⟩:=Zx H hk;rw[hx]at hin hc;obtain⟨A0,A1,A2,A3,A4,k0,k1,k2,k3,k4⟩:=h;dsimp only at eA hcap hle;subst eA;have HN:=zH hn;have HW:=zH (zk (w:=w) (o:=(ze ⟨A0,A1,A2,some ad,A4,k0,k1,k2,k3,k4⟩ m)));have zO:=zH (H.now HW.out);have HBX:=zH (qd w ⟨A0,A1,A2,some ad,A4,k0,k1,k2,k3,k4⟩ m);have HZ:Hid (w.heap.size<(w.alloc (ze ⟨A0,A1,A2,some ad,A4,k0,k1,k2,k3,k4⟩ m)).heap.size):=zH (by simp);have qY:Hid ((ad.add (f*8)).block<(w.alloc (ze ⟨A0,A1,A2,some ad,A4,k0,k1,k2,k3,k4⟩ m)).heap.size):=zH (by rw[zC];simp;omega);have Vi:=zH (hc.keep HW.out (by exact zZ hab));have iR:=zH (hin.now HW.out);have GN:=hin.code.cap;have FU:=hin.code.le;have Cu:=zH (show VC m x g= !(x.code.all fun i=> !qb (qC m i.1 i.2.1 i.2.2) g)from rfl);clear H hg hin hc hn hab hx;go_enter Tryz.func40,Tryz.ntmps40;go_upto_region 1 with fail
 generalize w.alloc (ze ⟨A0,A1,A2,some ad,A4,k0,k1,k2,k3,k4⟩ m)=w1 at*
 go_wp2_with fail
 go_loopw [7] (fun i wr=>∃k:Nat,k<=x.code.length/\i= .int .i64 k/\Hid (∀i ∈x.code.take k,(!qb (qC m i.1 i.2.1 i.2.2) g)=true)/\Hid (Below w1.heap.size w1 wr)) (fun i _=>x.code.length - (intOf i).toNat)
 case atStart=>exact⟨0,Xn _,rfl,zH (by simp),zH (zb _ _)⟩
 case round=>
  obtain⟨k,hkl,rfl,qz,HX⟩:=hrel;obtain⟨q0,q1,q2,q3,q4,q5,q6⟩:=HBX.out.keep HX.out HZ.out;dsimp only at q0 q1 q2 q3 q4 q5 q6;have c4:=(Vi.out.keep HX.out qY.out).c4;by_cases hlt:k<x.code.length
  ·obtain⟨ac,eC,hac,i0,i1,i2⟩:=iR.out.code.row.at_ hlt;have OW:=zH (fun q=>JP (f:=fun i:Int×Int×Int=> !qb (qC m i.1 i.2.1 i.2.2) g) hlt q);have HYE:=zH (fun q=>Jk (f:=fun i:Int×Int×Int=> !qb (qC m i.1 i.2.1 i.2.2) g) hlt qz.out q);generalize x.code[k]=ins at*
   obtain⟨op,a,b⟩:=ins;dsimp only at i0 i1 i2 OW HYE;rw[eC]at c4;have HR:Hid (∀W,Below w1.heap.size w1 W->W.cell? (ac.add (k*3))=some (.int .i64 op)/\W.cell? (zc (ac.add (k*3)) 1)=some (.int .i64 a)/\W.cell? (zc (ac.add (k*3)) 2)=some (.int .i64 b)):=zH (fun W hW=>⟨(hW.cell (p:=ac.add (k*3)) (by exact zZ hac)).trans i0,(hW.cell (p:=zc (ac.add (k*3)) 1) (by show(ac.add (k*3)).block<_;rw[zC];exact hac)).trans i1,(hW.cell (p:=zc (ac.add (k*3)) 2) (by show(ac.add (k*3)).block<_;rw[zC];exact hac)).trans i2⟩);have HC4:Hid (∀W,Below w1.heap.size w1 W->W.cell? ⟨(ad.add (f*8)).block,(ad.add (f*8)).off+4,none⟩=some (.slice (some ac) x.code.length hx'.k4)):=zH (fun W hW=>by have q:=(Vi.out.keep hW qY.out).c4;rw[eC]at q;exact q);obtain⟨j0,j1,j2⟩:=HR.out _ HX.out;clear i0 i1 i2 eC;obtain⟨L,hL⟩:=zj (qC m op a b);have Qx:L.length<=9223372036854775807:=by have:=Iw m op a b HN.out;rw[hL]at this;omega
   have HL:=zH hL;rw[hL]at OW HYE;clear hL;have qf:=zH HX.out.drew;obtain⟨r,hr⟩:=zj (qb L g);have HIR:=zH hr;cases r
   ·have HR2:=zH (HYE.out (by rw[hr];rfl));clear hr;go_wp2_with fail
    go_region_held3 (fun w'=>I7 w.heap.size A0 A1 A2 (some ad) A4 k0 k1 k2 k3 k4 m w' (w'.cell? ⟨(ad.add (f*8)).block,(ad.add (f*8)).off+4,none⟩=some (.slice (some ac) x.code.length hx'.k4)/\w'.cell? (ac.add (k*3))=some (.int .i64 op)/\w'.cell? (zc (ac.add (k*3)) 1)=some (.int .i64 a)/\w'.cell? (zc (ac.add (k*3)) 2)=some (.int .i64 b))) (first|exact⟨q0,q1,q2,q3,q4,q5,q6,c4,j0,j1,j2⟩) (first|(go_at_call 42;(with_reducible refine(IC zO qf HN HL).mono ?_);rintro e w2 ⟨v2,rfl,ho,hb⟩;have HX2:=zi qf hb;obtain⟨A9,c9,rfl,nN,_,_⟩:=Ji ho;have BM:=zH nN;obtain⟨q0,q1,q2,q3,q4,q5,q6⟩:=HBX.out.keep HX2.out HZ.out;dsimp only at q0 q1 q2 q3 q4 q5 q6;have c4:=HC4.out _ HX2.out;obtain⟨j0,j1,j2⟩:=HR.out _ HX2.out;clear ho hb nN)|(go_at_call 43;(with_reducible refine(gY _ _ _ _ _ _ Qx BM.out).mono ?_);rintro e w' ⟨he,rfl⟩;rw[HIR.out]at he;subst he))
    go_wp2_with fail
    go_roundw;case rel=>exact⟨k+1,by omega,by go_num,HR2,HX2⟩
    case measure=>simp[intOf];omega
   ·have HE:=zH (Cu.out.trans (by rw[OW.out (by rw[hr];rfl)];rfl:_=true));clear hr;go_wp2_with fail
    go_region_held3 (fun w'=>I7 w.heap.size A0 A1 A2 (some ad) A4 k0 k1 k2 k3 k4 m w' (w'.cell? ⟨(ad.add (f*8)).block,(ad.add (f*8)).off+4,none⟩=some (.slice (some ac) x.code.length hx'.k4)/\w'.cell? (ac.add (k*3))=some (.int .i64 op)/\w'.cell? (zc (ac.add (k*3)) 1)=some (.int .i64 a)/\w'.cell? (zc (ac.add (k*3)) 2)=some (.int .i64 b))) (first|exact⟨q0,q1,q2,q3,q4,q5,q6,c4,j0,j1,j2⟩) (first|(go_at_call 42;(with_reducible refine(IC zO qf HN HL).mono ?_);rintro e w2 ⟨v2,rfl,ho,hb⟩;have HX2:=zi qf hb;obtain⟨A9,c9,rfl,nN,_,_⟩:=Ji ho;have BM:=zH nN;obtain⟨q0,q1,q2,q3,q4,q5,q6⟩:=HBX.out.keep HX2.out HZ.out;dsimp only at q0 q1 q2 q3 q4 q5 q6;have c4:=HC4.out _ HX2.out;obtain⟨j0,j1,j2⟩:=HR.out _ HX2.out;clear ho hb nN)|(go_at_call 43;(with_reducible refine(gY _ _ _ _ _ _ Qx BM.out).mono ?_);rintro e w' ⟨he,rfl⟩;rw[HIR.out]at he;subst he))
    go_wp2_with fail
    go_ret;exact⟨by rw[HE.out];rfl,zD HW HX2⟩
  ·obtain rfl:k=x.code.length:=by omega
   have HE:=zH (Cu.out.trans (by rw[JQ qz.out (zn _)];rfl:_=false));go_wp2_with fail
   go_ret;exact⟨by rw[HE.out];rfl,zD HW HX⟩
theorem KH:(Tryz.prog.info? 27).map (fun i=>(i.zero,i.size,i.bytes))=some (some (.slice none 0 0),1,24):=by kernel_rfl
theorem DZ{m:za}{x:zl}{f:Nat}{g:Int}{h:zh}{w0 w:World}{r:Bool}(HI:Hid (zr w0 w0.heap.size h m))(HX:Hid (Below w0.heap.size w0 w))(HG:Hid (m.methods[f]? =some x))(hn:m.classes.length<=1000)(ha:x.code.length<=1048576)(HR:Hid (VC m x g=r)):
  Calls Tryz.prog 40 #[zv h m,.int .i64 f,.int .i64 g] w fun e w'=>e= .returned (.bool r)/\Below w.heap.size w w':=by
 have H:=q6z m x f g h w (HI.out.now HX.out) HG.out hn ha;rw[HR.out]at H;exact H
set_option maxHeartbeats 3200000 in
theorem q6x(m:za)(h:zh)(w:World)(H:zr w w.heap.size h m)(hn:m.classes.length<=1000)(hml:m.methods.length<=1000)(hc:∀x ∈m.methods,x.code.length<=1048576):
  Calls Tryz.prog 14 #[zv h m] w fun e w'=>∃v xs,e= .returned v/\w'.ownsRow w.heap.size 27 1 v m.methods.length xs/\Below w.heap.size w w':=by
 obtain⟨i0,hi,hz0,hz1,hz2⟩:=jJ KH;obtain⟨i1,hi1,hz01,hz11,hz21⟩:=jJ ZL;have HW:=zH (zk (w:=w) (o:=(ze h m)));have HI:=zH (H.now HW.out);have HBX:=zH (qd w h m);have HZ:Hid (w.heap.size<(w.alloc (ze h m)).heap.size):=zH (by simp);have HCO:=zH hc;clear H hc;go_enter Tryz.func14,Tryz.ntmps14;go_upto_region 1 with fail
 generalize w.alloc (ze h m)=w1 at*
 go_wp2_with fail
 go_loopw [3,4] (fun v i wr=>∃(k:Nat) (xs:List Value),k<=m.methods.length/\i= .int .i64 k/\Hid (wr.ownsRow w1.heap.size 27 1 v k xs)/\Hid (Below w1.heap.size w1 wr)) (fun _ i _=>m.methods.length - (intOf i).toNat)
 case atStart=>exact⟨0,[],by omega,rfl,zH (gM w1 _),zH (zk)⟩
 case round=>
  obtain⟨k,xs,hk,rfl,HO,HX⟩:=hrel;obtain⟨q0,q1,q2,q3,q4,q5,q6⟩:=HBX.out.keep HX.out HZ.out;have hsz:=HX.out.size;by_cases hlt:k<m.methods.length
  ·obtain⟨x,hx⟩:∃x,m.methods[k]? =some x:=⟨_,Xc hlt⟩
   have HG:=zH hx;have hxc:=HCO.out x (Xr hx);clear hx;go_wp2_with fail
   go_loopw [5,6] (fun l j wi=>∃(g:Nat) (ys:List Int),g<=m.methods.length/\j= .int .i64 g/\ys.length<=g/\Hid (wi.ownsRow wr.heap.size 3 1 l ys.length (ys.map (Value.int .i64)))/\Hid (Below wr.heap.size wr wi)) (fun _ j _=>m.methods.length - (intOf j).toNat)
   case atStart=>exact⟨0,[],by omega,rfl,zn _,zH (gM wr _),zH (zk)⟩
   case round=>
    clear q0 q1 q2 q3 q4 q5 q6;obtain⟨g,ys,hg,rfl,hyl,HOi,HXi⟩:=hrel;have HX2:=zH (HX.out.trans (HXi.out.mono hsz));obtain⟨q0,q1,q2,q3,q4,q5,q6⟩:=HBX.out.keep HX2.out HZ.out;by_cases hgl:g<m.methods.length
    ·obtain⟨r,hr⟩:=zj (VC m x (g:Int));have HR:=zH hr;clear hr;cases r
     ·go_wp2_with(go_at_call 40;(with_reducible refine(DZ HI HX2 HG hn hxc HR).mono ?_);rintro e w4 ⟨rfl,hb⟩;have HO4:=kpO HOi hb;have HX4:=zi HXi hb;clear hb)
      go_roundw;case rel=>exact⟨g+1,ys,by omega,by go_num,by omega,HO4,HX4⟩
      case measure=>simp[intOf];omega
     ·go_wp2_with(first
       |(go_at_call 40;(with_reducible refine(DZ HI HX2 HG hn hxc HR).mono ?_);rintro e w4 ⟨rfl,hb⟩;have HO4:=kpO HOi hb;have HX4:=zi HXi hb;have hsz4:=HX4.out.size;clear hb)
       |(at_builtin;refine Zv rfl _ _ 27 rfl _ 3 i1 (.int .i64 0) 1 8 Tryz.underlying27 hi1 hz01 hz11 hz21 rfl (by decide) _ ys.length (ys.map (Value.int .i64)) rfl (HO4.out.alloc _) (some ⟨w4.heap.size,0,none⟩) 1 1 _ [.int .i64 (g:Int)] rfl rfl (gZ w4 _ _) (bL rfl) (by unfold maxLen;omega) (by omega) (by simp;omega) ?_;intro v6 w6 hown hgrow;have HX6:=zH (jx (HX4.out.alloc hsz4 _) (HO4.out.alloc _) (by simp;omega) hgrow);have HO6:=zH hown;clear hown hgrow))
      go_roundw;case rel=>exact⟨g+1,ys++[(g:Int)],by omega,by go_num,by simp;omega,zH (by simpa using HO6.out),HX6⟩
      case measure=>simp[intOf];omega
    ·obtain⟨Al,cl,rfl,hll,hl1,hl2⟩:=Ji HOi.out;have HOo:=zH (Yr HO.out HXi.out (vA HO.out));have hsz2:=HX2.out.size;go_wp2_with(at_builtin;refine Zv rfl _ _ 53 rfl w1.heap.size 27 i0 (.slice none 0 0) 1 24 Tryz.underlying53 hi hz0 hz1 hz2 rfl (by decide) _ k xs rfl (HOo.out.alloc _) (some ⟨wr.heap.size,0,none⟩) 1 1 _ [.slice Al ys.length cl] rfl rfl (gZ wr _ _) (bL rfl) (by unfold maxLen;omega) (by omega) (by simp;omega) ?_;intro v6 w6 hown hgrow;have HX6:=zH (jx (HX2.out.alloc hsz2 _) (HOo.out.alloc _) (by simp;omega) hgrow);have HO6:=zH hown;clear hown hgrow)
     go_roundw;case rel=>exact⟨k+1,_,by omega,by go_num,HO6,HX6⟩
     case measure=>simp[intOf];omega
  ·go_wp2_with fail
   go_ret;have e:k=m.methods.length:=by omega
   exact⟨_,xs,rfl,js (by rw[<-e];exact HO.out) HW.out.size,zD HW HX⟩
def vZ(m:za)(x:zl)(n:Nat):List Int:=((List.range n).filter (fun g:Nat=>VC m x (g:Int))).map (fun g:Nat=>(g:Int))
theorem qbo{m:za}{x:zl}{n:Nat}(h:VC m x (n:Int)=true):vZ m x (n+1)=vZ m x n++[(n:Int)]:=by
 unfold vZ
 grind [List.range_succ]
theorem qg6{m:za}{x:zl}{n:Nat}(h:VC m x (n:Int)=false):vZ m x (n+1)=vZ m x n:=by
 unfold vZ
 grind [List.range_succ]
theorem qbp(m:za)(x:zl)(n:Nat):(vZ m x n).length<=n:=by
 unfold vZ
 grind
def vK(m:za):List (List Int):=m.methods.map fun x=>vZ m x m.methods.length
def wP(w:World)(v:Value)(A:Option Addr)(c:Nat)(L:List Int):Prop:=zd zu 1 w w.heap.size A c L/\fA v A/\∀ad,A=some ad->ad.block<w.heap.size
def cK(w:World)(v:Value)(xs:List Value)(EL:List (List Int)):Prop:=
 xs.length=EL.length/\∀(i:Nat) (L:List Int),EL[i]? =some L->∃A c,xs[i]? =some (Value.slice A L.length c)/\wP w v A c L
theorem q4n{w w':World}{B C:Nat}{A:Option Addr}{c:Nat}{L:List Int}(h:zd zu 1 w B A c L)(hC:B<=C)(hk:∀ad,A=some ad->∀q:Addr,q.block=ad.block->w'.cell? q=w.cell? q):zd zu 1 w' C A c L:=
 ⟨h.le,h.cap,fun i x hi=>by
  obtain⟨ad,e,hb,hc⟩:=h.row i x hi;exact⟨ad,e,(by omega),(hk ad e _ (zC _ _)).trans hc⟩⟩
theorem cK.nil(w:World)(v:Value):cK w v [] []:=⟨rfl,fun i L hi=>by simp at hi⟩
theorem cK.below{w w':World}{v:Value}{xs:List Value}{EL:List (List Int)}(h:cK w v xs EL)(hb:Below w.heap.size w w'):cK w' v xs EL:=
 ⟨h.1,fun i L hi=>by
  obtain⟨A,c,e,hs,ha,hl⟩:=h.2 i L hi;exact⟨A,c,e,(hs.below_to zu.keeps hb (zn _)).keep' zu.keeps hb.size (fun _ _=>rfl),ha,fun ad e=>Xp (hl ad e) hb.size⟩⟩
theorem wP.grown{w w3:World}{o:Obj}{v:Value}{L:List Int}{A:Option Addr}{c g9 n k:Nat}(h:wP w v A c L)(hg:(w.alloc o).grownBy w3 v.ownBlock)(hor:v.ownBlock=some g9\/g9=(w.alloc o).heap.size):
  wP w3 (.slice (some ⟨g9,0,none⟩) n k) A c L:=by
 obtain⟨hs,ha,hl⟩:=h;have hz:w.heap.size<=w3.heap.size:=Xe (by simp) hg.size;refine⟨q4n hs hz fun ad e q hq=> ?_,DN ha hl hor (by simp),(by grind)⟩;have hb:=hl ad e;have h1:w3.cell? q=(w.alloc o).cell? q:=XU (hg.block _ (by rw[hq];simp;omega) (fun e'=>ha _ e'.symm ad e hq));rw[h1];exact((zb w.heap.size w).alloc (zn _) o).cell (by omega)
theorem cK.snoc{w w3:World}{o:Obj}{v:Value}{xs:List Value}{EL:List (List Int)}{L:List Int}{A:Option Addr}{c g9 n k:Nat}(h:cK w v xs EL)(hs:wP w v A c L)
  (hg:(w.alloc o).grownBy w3 v.ownBlock) (hor:v.ownBlock=some g9\/g9=(w.alloc o).heap.size):
  cK w3 (.slice (some ⟨g9,0,none⟩) n k) (xs++[.slice A L.length c]) (EL++[L]):=by
 refine⟨by rw[Xh,Xh,h.1];rfl,fun i M hi=> ?_⟩;rcases Xl i EL.length with q|q
 ·rw[XO q]at hi;obtain⟨A',c',e,hs'⟩:=h.2 i M hi;exact⟨A',c',by grind,hs'.grown hg hor⟩
 ·rw[XN q]at hi;have hiz:i - EL.length=0:=by
   grind
  rw[hiz]at hi;simp at hi;subst hi;exact⟨A,c,by rw[XN (by rw[h.1];exact q),h.1,hiz];rfl,hs.grown hg hor⟩
def RowsIs(EL:List (List Int))(w:World)(e:Ending)(w':World):Prop:=∃A c,e= .returned (.slice A EL.length c)/\zd (zM zu 1) 1 w' w'.heap.size A c EL/\Below w.heap.size w w'
theorem qhs{w:World}{B e n:Nat}{v:Value}{xs:List Value}{EL:List (List Int)}(ho:w.ownsRow B e 1 v n xs)(hn:n=EL.length)(h:cK w v xs EL):∃A c,v= .slice A EL.length c/\zd (zM zu 1) 1 w w.heap.size A c EL:=by
 subst hn;rcases Je ho with⟨rfl,hz⟩|⟨g,c,rfl,h1,h2⟩
 ·have:EL=[]:=(by grind)
  subst this;exact⟨none,0,rfl,⟨zn _,by omega,qD.nil⟩⟩
 ·obtain⟨hb,hc⟩:=lZ ho;refine⟨_,c,rfl,h1,h2,fun i L hi=> ?_⟩;obtain⟨A,k,e1,hs,_,_⟩:=h.2 i L hi;obtain⟨c0,hg⟩:=hc i _ e1;refine⟨_,rfl,hg,A,k,?_,hs⟩;have ea:(Addr.add ⟨g,0,none⟩ (i*1))=⟨g,i,none⟩:=by
   unfold Addr.add;grind
  grind
set_option maxHeartbeats 3200000 in
theorem q4u(m:za)(h:zh)(w:World)(H:zr w w.heap.size h m)(hn:m.classes.length<=1000)(hml:m.methods.length<=1000)(hc:∀x ∈m.methods,x.code.length<=1048576):
  Calls Tryz.prog 14 #[zv h m] w (RowsIs (vK m) w):=by
 have hrow0:∀n v,vZ m v n=vZ m v n:=fun _ _=>rfl;clear hrow0;obtain⟨i0,hi,hz0,hz1,hz2⟩:=jJ KH;obtain⟨i1,hi1,hz01,hz11,hz21⟩:=jJ ZL;have HW:=zH (zk (w:=w) (o:=(ze h m)));have HI:=zH (H.now HW.out);have HBX:=zH (qd w h m);have HZ:Hid (w.heap.size<(w.alloc (ze h m)).heap.size):=zH (by simp);have HCO:=zH hc;clear H hc;go_enter Tryz.func14,Tryz.ntmps14;go_upto_region 1 with fail
 generalize w.alloc (ze h m)=w1 at*
 go_wp2_with fail
 go_loopw [3,4] (fun v i wr=>∃(k:Nat) (xs:List Value),k<=m.methods.length/\i= .int .i64 k/\Hid (wr.ownsRow w1.heap.size 27 1 v k xs)/\Hid (Below w1.heap.size w1 wr)/\Hid (cK wr v xs ((m.methods.take k).map fun x=>vZ m x m.methods.length))) (fun _ i _=>m.methods.length - (intOf i).toNat)
 case atStart=>exact⟨0,[],by omega,rfl,zH (gM w1 _),zH (zk),zH (cK.nil _ _)⟩
 case round=>
  obtain⟨k,xs,hk,rfl,HO,HX,HE⟩:=hrel;obtain⟨q0,q1,q2,q3,q4,q5,q6⟩:=HBX.out.keep HX.out HZ.out;have hsz:=HX.out.size;by_cases hlt:k<m.methods.length
  ·obtain⟨x,hx⟩:∃x,m.methods[k]? =some x:=(by simp_all)
   have HG:=zH hx;have hxc:=HCO.out x (by grind);have HTK:Hid ((m.methods.take (k+1)).map (fun x=>vZ m x m.methods.length)=(m.methods.take k).map (fun x=>vZ m x m.methods.length)++[vZ m x m.methods.length]):=zH (by rw[Xx,hx,Wc];rfl);clear hx;go_wp2_with fail
   go_loopw [5,6] (fun l j wi=>∃(g:Nat) (ys:List Int),g<=m.methods.length/\j= .int .i64 g/\Hid (ys=vZ m x g)/\ys.length<=g/\Hid (wi.ownsRow wr.heap.size 3 1 l ys.length (ys.map (Value.int .i64)))/\Hid (Below wr.heap.size wr wi)) (fun _ j _=>m.methods.length - (intOf j).toNat)
   case atStart=>exact⟨0,[],by omega,rfl,zH rfl,zn _,zH (gM wr _),zH (zk)⟩
   case round=>
    clear q0 q1 q2 q3 q4 q5 q6;obtain⟨g,ys,hg,rfl,HYS,hyl,HOi,HXi⟩:=hrel;have HX2:=zH (HX.out.trans (HXi.out.mono hsz));obtain⟨q0,q1,q2,q3,q4,q5,q6⟩:=HBX.out.keep HX2.out HZ.out;by_cases hgl:g<m.methods.length
    ·obtain⟨r,hr⟩:=zj (VC m x (g:Int));have HR:=zH hr;have HYN:Hid (r=false->ys=vZ m x (g+1)):=zH (fun q=>by rw[qg6 (by rw[hr,q])];exact HYS.out);have HYY:Hid (r=true->ys++[(g:Int)]=vZ m x (g+1)):=zH (fun q=>by rw[qbo (by rw[hr,q]),<-HYS.out]);clear hr;cases r
     ·go_wp2_with(go_at_call 40;(with_reducible refine(DZ HI HX2 HG hn hxc HR).mono ?_);rintro e w4 ⟨rfl,hb⟩;have HO4:=kpO HOi hb;have HX4:=zi HXi hb;clear hb)
      go_roundw;case rel=>exact⟨g+1,ys,by omega,by go_num,zH (HYN.out (by simp)),by omega,HO4,HX4⟩
      case measure=>simp[intOf];omega
     ·go_wp2_with(first
       |(go_at_call 40;(with_reducible refine(DZ HI HX2 HG hn hxc HR).mono ?_);rintro e w4 ⟨rfl,hb⟩;have HO4:=kpO HOi hb;have HX4:=zi HXi hb;have hsz4:=HX4.out.size;clear hb)
       |(at_builtin;refine Zv rfl _ _ 27 rfl _ 3 i1 (.int .i64 0) 1 8 Tryz.underlying27 hi1 hz01 hz11 hz21 rfl (by decide) _ ys.length (ys.map (Value.int .i64)) rfl (HO4.out.alloc _) (some ⟨w4.heap.size,0,none⟩) 1 1 _ [.int .i64 (g:Int)] rfl rfl (gZ w4 _ _) (bL rfl) (by unfold maxLen;omega) (by omega) (by simp;omega) ?_;intro v6 w6 hown hgrow;have HX6:=zH (jx (HX4.out.alloc hsz4 _) (HO4.out.alloc _) (by simp;omega) hgrow);have HO6:=zH hown;clear hown hgrow))
      go_roundw;case rel=>exact⟨g+1,ys++[(g:Int)],by omega,by go_num,zH (HYY.out (by simp)),by simp;omega,zH (by simpa using HO6.out),HX6⟩
      case measure=>simp[intOf];omega
    ·obtain⟨Al,cl,rfl,hll,hl1,hl2⟩:=Ji HOi.out;have HOo:=zH (Yr HO.out HXi.out (vA HO.out));have hsz2:=HX2.out.size;have HYE:Hid (ys=vZ m x m.methods.length):=zH (by rw[HYS.out,show g=m.methods.length by omega]);have HEo:=zH (HE.out.below HXi.out);have hly:∀ad,Al=some ad->ad.block<wr.heap.size:=fun ad e=>vA HOi.out _ (by rw[e];rfl);have HEA:Hid (wP wr u3 Al cl ys):=zH ⟨⟨hl1,hl2,fun i z hi=>by
      obtain⟨ad,e,hb,hc⟩:=hll i (.int .i64 z) (by rw[XF,hi];rfl);exact⟨ad,e,hb,by rw[Xq];exact hc⟩⟩,fun q hq ad e=>by
       have h1:=vA HO.out q hq;have h2:=(HOi.out.lt ad.block (by rw[e];rfl)).1;omega,hly⟩
     clear hly;go_wp2_with(at_builtin;refine wpList_append_lies _ rfl _ _ 53 rfl w1.heap.size 27 i0 (.slice none 0 0) 1 24 Tryz.underlying53 hi hz0 hz1 hz2 rfl (by decide) _ k xs rfl (HOo.out.alloc _) ⟨wr.heap.size,0,none⟩ 1 1 [.slice Al ys.length cl] rfl rfl (fun j u hj=>(by obtain⟨ad',e',_,h'⟩:=gZ wr (.slice Al ys.length cl) 27 j u hj;injection e' with e';subst e';exact h')) (bL rfl) (by decide) (by unfold maxLen;omega) (by omega) (by simp;omega) _ rfl ?_;intro g9 c9 w6 hown hgrow hor hlt9;have HX6:=zH (jx (HX2.out.alloc hsz2 _) (HOo.out.alloc _) (by simp;omega) hgrow);have HO6:=zH hown;have HE6:=zH (HEo.out.snoc (n:=k+1) (k:=c9) HEA.out hgrow hor);clear hown hgrow hor)
     go_roundw;case rel=>exact⟨k+1,_,by omega,by go_num,HO6,HX6,zH (by rw[HTK.out,<-HYE.out];exact HE6.out)⟩
     case measure=>simp[intOf];omega
  ·go_wp2_with fail
   go_ret;have e:k=m.methods.length:=by omega
   subst e;obtain⟨Ae,ce,rfl,hse⟩:=qhs HO.out (by rw[Xm,XL]) HE.out;have h1:(m.methods.take m.methods.length).map (fun x=>vZ m x m.methods.length)=vK m:=by rw[XL];rfl
   rw[h1]at hse;exact⟨Ae,ce,by rw[<-h1];first|rfl|simp,hse,zD HW HX⟩
def qw(W:List (List Bool))(i j:Nat):Bool:=(W[i]?.getD [])[j]?.getD false
structure iA(n:Nat)(W:List (List Bool)):Prop where
 len:W.length=n
 row:∀r ∈W,r.length=n
def Qs(W:List (List Bool))(i j:Nat)(b:Bool):List (List Bool):=W.set i ((W[i]?.getD []).set j b)
theorem iA.at_{n i:Nat}{W:List (List Bool)}(h:iA n W)(hi:i<n):(W[i]?.getD []).length=n:=by
 have hl:i<W.length:=by rw[h.len];exact hi
 rw[Xc hl,Wo];exact h.row _ (Xd hl)
theorem iA.set{n i j:Nat}{W:List (List Bool)}(h:iA n W)(hi:i<n)(b:Bool):iA n (Qs W i j b):=by
 refine⟨by unfold Qs;rw[XH];exact h.len,fun r hr=> ?_⟩;rcases X8 hr with q|q
 ·exact h.row r q
 ·rw[q,XH];exact h.at_ hi
theorem qix{n i j i' j':Nat}{W:List (List Bool)}(h:iA n W)(hi:i<n)(hj:j<n)(b:Bool):qw (Qs W i j b) i' j'=if i'=i/\j'=j then b else qw W i' j':=by
 have hl:i<W.length:=by rw[h.len];exact hi
 have hr:=h.at_ hi;unfold qw Qs;rw[Wf];by_cases hii:i=i'
 ·subst hii;rw[Xb rfl,Xb hl,Wo,Wf];by_cases hjj:j=j'
  ·subst hjj;rw[Xb rfl,Xb (by omega),Xb ⟨rfl,rfl⟩];rfl
  ·rw[Xa hjj,Xa (fun q=>hjj q.2.symm)]
 ·rw[Xa hii,Xa (fun q=>hii q.1.symm)]
structure VE(EL:List (List Int))(n k:Nat)(W:List (List Bool)):Prop where
 sq:iA n W
 sound:∀i j,i<n->j<n->qw W i j=true->qQ EL n i j
 full:∀i j,i<n->j<n->qQ EL k i j->qw W i j=true
structure aH(EL:List (List Int))(n k:Nat)(W0 W:List (List Bool))(i j:Nat):Prop where
 sq:iA n W
 sound:∀a b,a<n->b<n->qw W a b=true->qQ EL n a b
 keep:∀a b,a<n->b<n->qw W0 a b=true->qw W a b=true
 done:∀a b,a<n->b<n->(a<i\/(a=i/\b<j))->qw W0 a k=true->qw W0 k b=true->qw W a b=true
theorem VE.start{EL:List (List Int)}{n k:Nat}{W:List (List Bool)}(h:VE EL n k W):aH EL n k W W 0 0:=
 ⟨h.sq,h.sound,fun _ _ _ _ q=>q,fun a b _ _ q=>by omega⟩
theorem aH.step{EL:List (List Int)}{n k i j:Nat}{W0 W:List (List Bool)}(h:aH EL n k W0 W i j)(hk:k<n)(hi:i<n)(hj:j<n):
  aH EL n k W0 (Qs W i j (qw W i j||(qw W i k&& qw W k j))) i (j+1):=by
 have hs:∀a b,qw (Qs W i j (qw W i j||(qw W i k&& qw W k j))) a b=if a=i/\b=j then(qw W i j||(qw W i k&& qw W k j))else qw W a b:=fun a b=>qix h.sq hi hj _
 have hm:∀a b,qw W a b=true->qw (Qs W i j (qw W i j||(qw W i k&& qw W k j))) a b=true:=fun a b q=>by
  rw[hs];by_cases e:a=i/\b=j
  ·rw[Xb e,<-e.1,<-e.2,q,Bool.true_or]
  ·rw[Xa e];exact q
 refine⟨h.sq.set hi _,fun a b ha hb q=> ?_,fun a b ha hb q=>hm a b (h.keep a b ha hb q),fun a b ha hb q h1 h2=> ?_⟩
 ·rw[hs]at q;by_cases e:a=i/\b=j
  ·rw[Xb e]at q;obtain⟨rfl,rfl⟩:=e;rw[Wr,Xt]at q;rcases q with q|⟨q1,q2⟩
   ·exact h.sound _ _ ha hb q
   ·exact(h.sound _ _ ha hk q1).join hk (h.sound _ _ hk hb q2)
  ·rw[Xa e]at q;exact h.sound a b ha hb q
 ·by_cases e:a=i/\b=j
  ·rw[hs,Xb e];obtain⟨rfl,rfl⟩:=e;rw[h.keep a k ha hk h1,h.keep k b hk hb h2];simp
  ·exact hm a b (h.done a b ha hb (by omega) h1 h2)
theorem aH.next{EL:List (List Int)}{n k i j:Nat}{W0 W:List (List Bool)}(h:aH EL n k W0 W i j)(hj:n<=j):aH EL n k W0 W (i+1) 0:=
 ⟨h.sq,h.sound,h.keep,fun a b ha hb q=>h.done a b ha hb (by omega)⟩
theorem aH.end_{EL:List (List Int)}{n k i j:Nat}{W0 W:List (List Bool)}(h0:VE EL n k W0)(h:aH EL n k W0 W i j)(hk:k<n)(hi:n<=i):VE EL n (k+1) W:=
 ⟨h.sq,h.sound,fun a b ha hb q=>by
  rcases q.split with q|⟨q1,q2⟩
  ·exact h.keep a b ha hb (h0.full a b ha hb q)
  ·exact h.done a b ha hb (by omega) (h0.full a k ha hk q1) (h0.full k b hk hb q2)⟩
theorem VE.iff{EL:List (List Int)}{n:Nat}{W:List (List Bool)}(h:VE EL n n W){i j:Nat}(hi:i<n)(hj:j<n):qw W i j=true↔qQ EL n i j:=⟨h.sound i j hi hj,h.full i j hi hj⟩
theorem VE.first{EL:List (List Int)}{n:Nat}{W:List (List Bool)}(hs:iA n W)(h:∀i j,i<n->j<n->(qw W i j=true↔kV EL i j)):VE EL n 0 W:=
 ⟨hs,fun i j hi hj q=> .one ((h i j hi hj).mp q),fun i j hi hj q=>by
  cases q with
  |one e=>exact(h i j hi hj).mpr e
  |snoc _ hp _=>omega⟩
def jH(EL:List (List Int)):Nat->Nat->Nat->Bool
 |0,i,j=>decide ((j:Int) ∈EL[i]?.getD [])
 |n+1,i,j=>jH EL n i j||(jH EL n i n&& jH EL n n j)
theorem ma{EL:List (List Int)}{n i j:Nat}:jH EL n i j=true↔qQ EL n i j:=by
 induction n generalizing i j with
 |zero=>
  unfold jH;rw[Xw];constructor
  ·exact fun h=> .one h
  ·intro h;cases h with
   |one e=>exact e
   |snoc _ hp _=>omega
 |succ n ih=>
  unfold jH;rw[Wr,Xt,ih,ih,ih];constructor
  ·rintro(h|⟨h1,h2⟩)
   ·exact h.more (by omega)
   ·exact(h1.more (by omega)).join (by omega) (h2.more (by omega))
  ·exact qQ.split
def kO(m:za)(f:Int):List Int:=if 0<=f/\f<m.methods.length then vZ m (zA m f) m.methods.length else []
theorem Ei(m:za):(vK m).length=m.methods.length:=Xm _
theorem WH{m:za}{k:Nat}(hk:k<m.methods.length):(vK m)[k]? =some (kO m (k:Int)):=by
 unfold vK kO zA;rw[XF,Xb ⟨by omega,by omega⟩,Xo,Xc hk];rfl
theorem qi8{m:za}{f:Int}(h:¬(0<=f/\f<m.methods.length)):kO m f=[]:=by unfold kO;rw[Xa h]
theorem Ur(m:za)(f:Int):(kO m f).length<=m.methods.length:=by
 unfold kO;split
 ·exact qbp _ _ _
 ·simp
section
variable(EL:List (List Int))(n:Nat)(C:Nat->Int)
def ka(f g:Nat):Bool:=decide (g=f)||(jH EL n f g&& jH EL n g f)
def kq(f:Nat):Nat->Int
 |0=>0
 |g+1=>if ka EL n f g=true then kq f g+C g else kq f g
def ZA(out:Nat->Int)(g:Nat)(b t:Int):Int:=if jH EL n t.toNat g=false/\b<out t.toNat then out t.toNat else b
def jU(out:Nat->Int)(g:Nat)(b:Int)(l:List Int):Int:=l.foldl (ZA EL n out g) b
def kt(out:Nat->Int)(f:Nat):Nat->Int
 |0=>0
 |g+1=>if ka EL n f g=true then jU EL n out g (kt out f g) (EL[g]?.getD [])else kt out f g
def wM:Nat->Nat->Int
 |0,_=>0
 |k+1,f=>kq EL n C f n+kt EL n (wM k) f n
def QQ(f:Nat):Int:=wM EL n C n f
def aJ(f:Nat):Nat:=((List.range n).filter (fun g=>decide (g=f)||jH EL n f g)).length
end
theorem qdr{l:List Nat}{p q:Nat->Bool}(h:∀x ∈l,p x=true->q x=true)(h2:∃x ∈l,q x=true/\p x=false):(l.filter p).length<(l.filter q).length:=by
 induction l with
 |nil=>grind
 |cons a l ih=>
  have hle:∀l:List Nat,(∀x ∈l,p x=true->q x=true)->(l.filter p).length<=(l.filter q).length:=by
   intro l
   induction l with
   |nil=>grind
   |cons b l ih2=>
    grind
  grind
section
variable{EL:List (List Int)}{n:Nat}{C:Nat->Int}
def Jl(EL:List (List Int))(n:Nat):Prop:=∀(g:Nat),∀t ∈EL[g]?.getD [],0<=t/\t<(n:Int)
theorem mh{f g:Nat}:ka EL n f g=true↔g=f\/(qQ EL n f g/\qQ EL n g f):=by
 unfold ka;rw[Wr,Xw,Xt,ma,ma]
theorem qcb(f:Nat):ka EL n f f=true:=mh.mpr (.inl rfl)
theorem LU{i j:Nat}:jH EL n i j=false↔¬qQ EL n i j:=by rw[<-ma,Bool.not_eq_true]
theorem q0b{f:Nat}(hf:f<n):0<aJ EL n f:=by
 unfold aJ;exact List.length_pos_of_mem (a:=f) (by grind)
theorem q0x(f:Nat):aJ EL n f<=n:=by
 unfold aJ
 grind
theorem q0w{f g t:Nat}(hg:g<n)(ht:t<n)(hp:ka EL n f g=true)(he:kV EL g t)(hn:jH EL n t g=false):aJ EL n t<aJ EL n f:=by
 have hgt:qQ EL n g t:= .one he;have hnt:=LU.mp hn;have hft:qQ EL n f t:=by
  rcases mh.mp hp with rfl|⟨h1,_⟩
  ·exact hgt
  ·exact h1.join hg hgt
 unfold aJ;refine qdr (fun x hx h=> ?_) ⟨g,Wb.mpr hg,?_,?_⟩
 ·rw[Wr,Xw,ma]at h⊢
  rcases h with rfl|h
  ·grind
  ·exact .inr (hft.join ht h)
 ·rw[Wr,Xw,ma];exact(mh.mp hp).imp id (fun q=>q.1)
 grind
theorem q5n{o o':Nat->Int}{g:Nat}{b:Int}{l:List Int}(h:∀t ∈l,jH EL n t.toNat g=false->o t.toNat=o' t.toNat):jU EL n o g b l=jU EL n o' g b l:=by
 induction l generalizing b with
 |nil=>rfl
 |cons t l ih=>
  show jU EL n o g (ZA EL n o g b t) l=jU EL n o' g (ZA EL n o' g b t) l;have e:ZA EL n o g b t=ZA EL n o' g b t:=by
   unfold ZA
   grind
  grind
theorem Kh(hE:Jl EL n){o o':Nat->Int}{f k:Nat}(hk:k<=n)(h:∀g t,g<n->t<n->ka EL n f g=true->kV EL g t->jH EL n t g=false->o t=o' t):kt EL n o f k=kt EL n o' f k:=by
 induction k with
 |zero=>rfl
 |succ g ih=>
  unfold kt;rw[ih (by omega)];by_cases hp:ka EL n f g=true
  ·rw[Xb hp,Xb hp];refine q5n (fun t ht hw=> ?_);obtain⟨h0,h1⟩:=hE g t ht;exact h g t.toNat (by omega) (by omega) hp (by unfold kV;grind) hw
  grind
theorem q4a(hE:Jl EL n)(k:Nat):∀f,f<n->aJ EL n f<=k->wM EL n C (k+1) f=wM EL n C k f:=by
 induction k with
 |zero=>grind [q0b]
 |succ k ih=>
  intro f hf h;show kq EL n C f n+kt EL n (wM EL n C (k+1)) f n=kq EL n C f n+kt EL n (wM EL n C k) f n;rw[Kh hE (zn _) (fun g t hg ht hp he hw=>ih t ht (by have:=q0w hg ht hp he hw;omega))]
theorem KS(hE:Jl EL n){f:Nat}(hf:f<n):QQ EL n C f=kq EL n C f n+kt EL n (QQ EL n C) f n:=by
 have h:=q4a (C:=C) hE n f hf (q0x f);unfold QQ;rw[<-h];rfl
theorem SA(hE:Jl EL n){o:Nat->Int}{f r:Nat}(hf:f<n)(hc:aJ EL n f<=r+1)(h:∀t,t<n->aJ EL n t<=r->o t=QQ EL n C t):kq EL n C f n+kt EL n o f n=QQ EL n C f:=by
 rw[KS hE hf,Kh (o':=QQ EL n C) hE (zn _) (fun g t hg ht hp he hw=>h t ht (by have:=q0w hg ht hp he hw;omega))]
theorem q9w{o:Nat->Int}{g:Nat}{b:Int}{l:List Int}:b<=jU EL n o g b l:=by
 induction l generalizing b with
 |nil=>exact Int.le_refl _
 |cons t l ih=>
  show b<=jU EL n o g (ZA EL n o g b t) l;refine Int.le_trans ?_ ih;unfold ZA;omega
theorem q9v{o:Nat->Int}{g:Nat}{b M:Int}{l:List Int}(hb:b<=M)(ho:∀t ∈l,o t.toNat<=M):jU EL n o g b l<=M:=by
 induction l generalizing b with
 |nil=>exact hb
 |cons t l ih=>
  show jU EL n o g (ZA EL n o g b t) l<=M;refine ih ?_ (by grind);unfold ZA
  grind
theorem KU{o:Nat->Int}{f k:Nat}:0<=kt EL n o f k:=by
 induction k with
 |zero=>exact Int.le_refl _
 |succ g ih=>
  unfold kt;split
  ·exact Int.le_trans ih q9w
  ·exact ih
theorem Ut{o:Nat->Int}{f k:Nat}{M:Int}(hE:Jl EL n)(hM:0<=M)(ho:∀t,t<n->o t<=M):kt EL n o f k<=M:=by
 induction k with
 |zero=>exact hM
 |succ g ih=>
  unfold kt;split
  ·exact q9v ih (fun t ht=>ho _ (by have:=hE g t ht;omega))
  ·exact ih
theorem KC{f k:Nat}(hC:∀g,0<=C g):0<=kq EL n C f k:=by
 induction k with
 |zero=>exact Int.le_refl _
 |succ g ih=>
  unfold kq
  grind
theorem qci{f g k:Nat}(hC:∀g,0<=C g)(hk:g<k)(hp:ka EL n f g=true):C g<=kq EL n C f k:=by
 induction k with
 |zero=>omega
 |succ j ih=>
  unfold kq;have h1:=hC j;have h2:=KC (EL:=EL) (n:=n) (f:=f) (k:=j) hC
  grind
theorem TD{f k:Nat}{M:Int}(hC:∀g,C g<=M)(hM:0<=M):kq EL n C f k<=k*M:=by
 induction k with
 |zero=>simp[kq]
 |succ g ih=>
  unfold kq
  grind
theorem qeq(hE:Jl EL n)(hC:∀g,0<=C g){f:Nat}(hf:f<n):C f<=QQ EL n C f:=by
 rw[KS hE hf];have h1:=qci (EL:=EL) (n:=n) (k:=n) hC hf (qcb f);have h2:=KU (EL:=EL) (n:=n) (o:=QQ EL n C) (f:=f) (k:=n);omega
theorem qer(hE:Jl EL n)(hC:∀g,0<=C g){f:Nat}(hf:f<n):0<=QQ EL n C f:=Int.le_trans (hC f) (qeq hE hC hf)
end
theorem Lg(m:za):Jl (vK m) m.methods.length:=fun g t ht=>by
 unfold vK at ht;rw[XF]at ht;cases hx:m.methods[g]? with
 |none=>rw[hx]at ht;cases ht
 |some x=>
  rw[hx]at ht;have ht:t ∈vZ m x m.methods.length:=ht;unfold vZ at ht;obtain⟨k,hk,rfl⟩:=X9.mp ht;rw[List.mem_filter,Wb]at hk;omega
section
variable{EL:List (List Int)}{n:Nat}{P:List (List Nat)}{C:Nat->Int}
theorem eH{i a:Nat}(hi:i<P.length)(h:a ∈P[i]):a ∈P.flatten:=List.mem_flatten.mpr (by grind)
theorem qdo{i j a:Nat}(h:P.flatten.Nodup)(hi:i<P.length)(hj:j<P.length)(h1:a ∈P[i])(h2:a ∈P[j]):i=j:=by
 induction P generalizing i j with
 |nil=>simp at hi
 |cons c P ih=>
  grind [List.flatten_cons,List.nodup_append,eH]
theorem Qk.way(h:Qk EL n P){i a b:Nat}(hi:i<P.length)(ha:a ∈P[i])(hb:b<n)(hw:qQ EL n a b):∃j,∃hj:j<P.length,j<=i/\b ∈P[j]:=by
 induction hw with
 |one e=>exact h.ord i hi a ha _ hb e
 | @snoc p j _ hp e ih=>
  obtain⟨k,hk,hki,hm⟩:=ih hp;obtain⟨l,hl,hlk,hm2⟩:=h.ord k hk p hm _ hb e
  grind
theorem Qk.part(h:Qk EL n P){i f g:Nat}(hi:i<P.length)(hf:f ∈P[i]):g ∈P[i]↔g<n/\ka EL n f g=true:=by
 have hfn:=h.lt f (eH hi hf);rw[mh];constructor
 ·intro hg;refine⟨h.lt g (eH hi hg),?_⟩;rcases h.ring _ (Xd hi) f hf g hg with e|h1
  ·omega
  ·rcases h.ring _ (Xd hi) g hg f hf with e|h2;all_goals grind
 ·rintro⟨hgn,rfl|⟨h1,h2⟩⟩
  ·exact hf
  ·obtain⟨j,hj,hji,hm⟩:=h.way hi hf hgn h1;obtain⟨k,hk,hkj,hm2⟩:=h.way hj hm hfn h2;have:=qdo h.nod hi hk hf hm2
   grind
theorem qjf{c d:List Nat}(hc:c.Pairwise (· < ·))(hd:d.Pairwise (· < ·))(h:∀x,x ∈c↔x ∈d):c=d:=by
 refine List.Perm.eq_of_pairwise (le:=(· < ·)) (by omega) hc hd ?_;exact(List.perm_ext_iff_of_nodup (hc.imp (by omega)) (hd.imp (by omega))).mpr h
theorem Qk.eq(h:Qk EL n P){i f:Nat}(hi:i<P.length)(hf:f ∈P[i]):P[i]=(List.range n).filter (ka EL n f):=by
 refine qjf (h.srt _ (Xd hi)).2 (List.pairwise_lt_range.filter _) (fun x=> ?_);rw[h.part hi hf,List.mem_filter,Wb]
def ZX(C:Nat->Int)(c:List Nat):Int:=c.foldl (fun s g=>s+C g) 0
theorem qax{c:List Nat}{k:Nat}(hk:k<c.length):ZX C (c.take (k+1))=ZX C (c.take k)+C c[k]:=by
 unfold ZX;rw[Xx,Xc hk,Wg];rfl
def beyP(EL:List (List Int))(n:Nat)(out:Nat->Int)(c:List Nat):Int:=c.foldl (fun b g=>jU EL n out g b (EL[g]?.getD [])) 0
theorem q7k(f k:Nat):kq EL n C f k=ZX C ((List.range k).filter (ka EL n f)):=by
 induction k with
 |zero=>rfl
 |succ k ih=>
  rw[List.range_succ,List.filter_append,kq,ih];cases hp:ka EL n f k
  ·simp[hp]
  ·simp[hp,ZX,Wg]
theorem q9u(out:Nat->Int)(f k:Nat):kt EL n out f k=beyP EL n out ((List.range k).filter (ka EL n f)):=by
 induction k with
 |zero=>rfl
 |succ k ih=>
  rw[List.range_succ,List.filter_append,kt,ih];cases hp:ka EL n f k
  ·simp[hp]
  ·simp[hp,beyP,Wg]
theorem Qk.bound(h:Qk EL n P)(hE:Jl EL n){i f:Nat}(hi:i<P.length)(hf:f ∈P[i]){out:Nat->Int}(ho:∀j,(hj:j<i)->∀t ∈P[j]'(by omega),out t=QQ EL n C t):
  QQ EL n C f=ZX C P[i]+beyP EL n out P[i]:=by
 have hfn:=h.lt f (eH hi hf);rw[KS hE hfn,q7k,Kh (o':=out) hE (zn _) (fun g t hg ht hp he hw=> ?_),q9u,<-h.eq hi hf];obtain⟨j,hj,hji,hm⟩:=h.ord i hi g ((h.part hi hf).mpr ⟨hg,hp⟩) t ht he;have hne:j≠i:=fun e=>by
  subst e;have h1:=(h.part hi hm).mp ((h.part hi hf).mpr ⟨hg,hp⟩);rcases mh.mp h1.2 with rfl|⟨q1,_⟩
  ·exact LU.mp hw (.one he)
  ·exact LU.mp hw q1
 grind
theorem Qk.stays(h:Qk EL n P){i g t:Nat}(hi:i<P.length)(hg:g ∈P[i])(ht:t<n)(he:kV EL g t):jH EL n t g=true↔t ∈P[i]:=by
 rw[ma,h.part hi hg,mh];constructor
 ·intro q;exact⟨ht,.inr ⟨.one he,q⟩⟩
 ·rintro⟨_,rfl|⟨_,q⟩⟩
  ·exact .one he
  ·exact q
theorem Qk.cyc(h:Qk EL n P){i f:Nat}(hi:i<P.length)(hf:f ∈P[i]):(∃a ∈P[i],∃b ∈P[i],kV EL a b)↔jH EL n f f=true:=by
 have hfn:=h.lt f (eH hi hf);rw[ma];constructor
 ·rintro⟨a,ha,b,hb,e⟩;have h1:f=a\/qQ EL n f a:=h.ring _ (Xd hi) f hf a ha;have h2:b=f\/qQ EL n b f:=h.ring _ (Xd hi) b hb f hf;have han:=h.lt a (eH hi ha);have hbn:=h.lt b (eH hi hb);have h3:qQ EL n f b:=by
   rcases h1 with rfl|h1
   ·exact .one e
   ·exact .snoc h1 han e
  rcases h2 with rfl|h2
  ·exact h3
  ·exact h3.join hbn h2
 ·intro q;cases q with
  |one e=>grind
  | @snoc p _ q hp e=>exact⟨p,(h.part hi hf).mpr ⟨hp,mh.mpr (.inr ⟨q,.one e⟩)⟩,f,hf,e⟩
end
def fo(m:za)(cs:List (Int×Int×Int))(g:Nat):Bool:=cs.any fun i=>qb (qC m i.1 i.2.1 i.2.2) (g:Int)
theorem q7t{m:za}{cs:List (Int×Int×Int)}{t:Nat}(h:t<cs.length)(g:Nat):fo m (cs.take (t+1)) g=(fo m (cs.take t) g||qb (qC m cs[t].1 cs[t].2.1 cs[t].2.2) (g:Int)):=by
 unfold fo;rw[Xx,Xc h,List.any_append];simp
theorem q50(m:za)(x:zl)(g:Nat):fo m x.code g=VC m x (g:Int):=by
 unfold fo VC;rw[XQ];simp
theorem q9q{m:za}{x:zl}{k:Nat}(hk:k<m.methods.length)(hx:m.methods[k]=x):kO m (k:Int)=vr (fun g=>fo m x.code g) m.methods.length:=by
 have e:zA m (k:Int)=x:=by unfold zA;rw[Xo,Xc hk,hx];rfl
 unfold kO;rw[Xb ⟨by omega,by omega⟩,e,show vZ m x m.methods.length=vr (fun g=>VC m x (g:Int)) m.methods.length from rfl];exact Ty fun g _=>(q50 m x g).symm
theorem qhd{l:List Int}{s:Nat}(h:s<l.length)(g:Int):qb (l.take (s+1)) g=(qb (l.take s) g||decide (g=l[s])):=by
 unfold qb;rw[XQ,Wr,Xw,Xw,Xw,Xx,Xc h,Xu];simp only[Option.toList_some,XR]
theorem q7v{w w':World}{A:Option Addr}{xs:List Value}{b:Nat}(h:zw w w.heap.size A xs)(hg:w.grownBy w' (some b))(hf:∀ad,A=some ad->ad.block≠b):zw w' w'.heap.size A xs:=fun j u hu=>by
 obtain⟨ad,e,hb,hc⟩:=h j u hu;refine⟨ad,e,Xp hb hg.size,?_⟩;have hk:(ad.add j).block=ad.block:=by rw[zC]
 exact(XU (hg.block _ (by rw[hk];omega) (fun e'=>hf ad e (by injection e' with e';rw[hk]at e';exact e')))).trans hc
set_option maxHeartbeats 3200000 in
theorem qk6(m:za)(f:Int)(h:zh)(w:World)(H:zr w w.heap.size h m)(hn:m.classes.length<=1000)(hml:m.methods.length<=1048576)(hc:∀x ∈m.methods,x.code.length<=1048576):
  Calls Tryz.prog 112 #[zv h m,.int .i64 f] w (ZR (kO m f) w):=by
 by_cases hf:0<=f/\f<m.methods.length
 ·obtain⟨f0,f1⟩:=hf;obtain⟨k,rfl⟩:=Xj f0;have hk:k<m.methods.length:=by omega
  obtain⟨x,hx⟩:=zj (m.methods[k]);have hxc:=hc x (by rw[<-hx];exact Xd hk);have sS:=zH (q9q hk hx);obtain⟨L,hL⟩:=zj (kO m (k:Int));rw[hL]at sS⊢
  have hle:=H.methods.le;have hcap:=H.methods.cap;obtain⟨ad,hx',eA,hab,hin,hcc⟩:=Zx H hk;rw[hx]at hin hcc;obtain⟨A0,A1,A2,A3,A4,k0,k1,k2,k3,k4⟩:=h;obtain⟨fK,fE,nW,ow,fI,gH,oO,nK⟩:=hx';dsimp only at eA hcap hle;subst eA;have HN:=zH hn;have HW:=zH (zk (w:=w) (o:=(ze ⟨A0,A1,A2,some ad,A4,k0,k1,k2,k3,k4⟩ m)));have zO:=zH (H.now HW.out);have HBX:=zH (qd w ⟨A0,A1,A2,some ad,A4,k0,k1,k2,k3,k4⟩ m);have HZ:Hid (w.heap.size<(w.alloc (ze ⟨A0,A1,A2,some ad,A4,k0,k1,k2,k3,k4⟩ m)).heap.size):=zH (by simp);have qY:Hid ((ad.add (k*8)).block<(w.alloc (ze ⟨A0,A1,A2,some ad,A4,k0,k1,k2,k3,k4⟩ m)).heap.size):=zH (by rw[zC];simp;omega);have Vi:=zH (hcc.keep HW.out (by exact zZ hab));have iR:=zH (hin.now HW.out).code;have GN:=hin.code.cap;have FU:=hin.code.le;have HR1:Hid ((decide (0<=(k:Int))&& decide ((k:Int)<m.methods.length))=true):=zH (by rw[Xi f0,Xi f1];rfl);dsimp only at GN FU;have hmm:= @run_makeMap Tryz.prog;clear H hc hin hcc hn hab hx hL f0 f1;go_enter Tryz.func112,Tryz.ntmps112;go_upto_region 1 with fail
  generalize w.alloc (ze ⟨A0,A1,A2,some ad,A4,k0,k1,k2,k3,k4⟩ m)=w1 at*
  have HX0:=qP w1;obtain⟨q0,q1,q2,q3,q4,q5,q6⟩:=HBX.out;dsimp only at q0 q1 q2 q3 q4 q5 q6;go_upto_region 4 with(go_at_call 152;(with_reducible refine(Dn zO HX0 HR1).mono ?_);rintro e w2 ⟨rfl,hb⟩;have HX2:=zH hb;clear hb)
  clear q0 q1 q2 q3 q4 q5 q6;have Zd:=zH (ve.made w2 m.methods.length);have zp:=zH (HX2.out.alloc HX2.out.size (.map #[] 0));have hB1:=HX2.out.size;generalize w2.alloc (.map #[] 0)=w3 at*
  generalize w2.heap.size=B at*
  obtain⟨q0,q1,q2,q3,q4,q5,q6⟩:=HBX.out.keep zp.out HZ.out;dsimp only at q0 q1 q2 q3 q4 q5 q6;have c4:=(Vi.out.keep zp.out qY.out).c4;dsimp only at c4;go_wp2_with fail
  clear q0 q1 q2 q3 q4 q5 q6 c4;go_loopw [22] (fun i wr=>∃t:Nat,t<=x.code.length/\i= .int .i64 t/\Hid (ve wr B (fun g=>fo m (x.code.take t) g) m.methods.length)/\Hid (Below w1.heap.size w1 wr)) (fun i _=>x.code.length - (intOf i).toNat)
  case atStart=>exact⟨0,Xn _,rfl,Zd,zp⟩
  case round=>
   clear Zd zp HX2;obtain⟨t,ht,rfl,HM,HX⟩:=hrel;by_cases hlt:t<x.code.length
   ·obtain⟨ac,rfl,hac,i0,i1,i2⟩:=iR.out.row.at_ hlt;have HT1:=zH (q7t (m:=m) hlt);generalize x.code[t]=ins at*
    obtain⟨op,a,b⟩:=ins;dsimp only at i0 i1 i2 HT1;obtain⟨T,hT⟩:=zj (qC m op a b);have MX:T.length<=1000:=by have:=Iw m op a b HN.out;rw[hT]at this;exact this
    have YK:=zH hT;rw[hT]at HT1;clear hT;obtain⟨P,hP⟩:=zj ((fun g=>fo m (x.code.take t) g));rw[hP]at HM;have HT2:Hid (∀g,fo m (x.code.take (t+1)) g=(P g||qb T (g:Int))):=zH (fun g=>by rw[HT1.out g,<-hP]);clear HT1 hP;have q2q:=HX.out.size;have j0:=(HX.out.cell (p:=ac.add (t*3)) (by exact zZ hac)).trans i0;have j1:=(HX.out.cell (p:=zc (ac.add (t*3)) 1) (by show(ac.add (t*3)).block<_;rw[zC];exact hac)).trans i1;have j2:=(HX.out.cell (p:=zc (ac.add (t*3)) 2) (by show(ac.add (t*3)).block<_;rw[zC];exact hac)).trans i2;clear i0 i1 i2 hac;go_upto_region 7 with fail
    clear j0 j1 j2;have sH:=zH (qr wr [.int .i64 op,.int .i64 a,.int .i64 b] 50);have HA:Hid (Below wr.heap.size wr (wr.alloc (.cells ([.int .i64 op,.int .i64 a,.int .i64 b]:List Value).toArray 50))):=zH (zk);have nQ:=zH (HM.out.below HA.out HM.out.lt);have HX4:=zH (HX.out.trans (HA.out.mono q2q));generalize wr.alloc (.cells ([.int .i64 op,.int .i64 a,.int .i64 b]:List Value).toArray 50)=w4 at*
    have i0:=sH.out 0 _ rfl;have i1:=sH.out 1 _ rfl;have i2:=sH.out 2 _ rfl;obtain⟨q0,q1,q2,q3,q4,q5,q6⟩:=HBX.out.keep HX4.out HZ.out;dsimp only at q0 q1 q2 q3 q4 q5 q6;have hB4:=nQ.out.lt;go_wp2_with(go_at_call 153;(with_reducible refine(qei zO HX4 HN.out YK).mono ?_);rintro e w5 ⟨v5,rfl,ho,hb⟩;have nY:=zH (nQ.out.below hb nQ.out.lt);have qc:=zH (HX4.out.trans (hb.mono HX4.out.size));obtain⟨A5,c5,rfl,hl5,g1,g2⟩:=Ji ho;have qh:=zH hl5;have HF5:Hid (∀ad,A5=some ad->ad.block≠B):=zH (fun ad e=>by have:=(ho.lt ad.block (by rw[e];rfl)).1;omega);clear hb ho hl5)
    clear q0 q1 q2 q3 q4 q5 q6 i0 i1 i2;go_loopw [30] (fun j wi=>∃s:Nat,s<=T.length/\j= .int .i64 s/\Hid (ve wi B (fun g=>P g||qb (T.take s) (g:Int)) m.methods.length)/\Hid (Below w1.heap.size w1 wi)/\Hid (zw wi wi.heap.size A5 (T.map (Value.int .i64)))) (fun j _=>T.length - (intOf j).toNat)
    case atStart=>exact⟨0,Xn _,rfl,zH (nY.out.cong (fun g _=>by rw[List.take_zero,qjv,Bool.or_false])),qc,qh⟩
    case round=>
     clear nY qc qh;obtain⟨s,hs,rfl,Cb,HXi,xz⟩:=hrel;by_cases hst:s<T.length
     ·obtain⟨a5,rfl,su,p5⟩:=xz.out s (.int .i64 T[s]) (by rw[XF,Xc hst];rfl);have jS:=zH (fun g:Nat=>qhd hst (g:Int));generalize T[s]=q at*
      obtain⟨q0,q1,q2,q3,q4,q5,q6⟩:=HBX.out.keep HXi.out HZ.out;dsimp only at q0 q1 q2 q3 q4 q5 q6;clear su;by_cases hm:0<=q/\q<m.methods.length
      ·obtain⟨m0,m1⟩:=hm;obtain⟨g,rfl⟩:=Xj m0;have HR:Hid ((decide (0<=(g:Int))&& decide ((g:Int)<m.methods.length))=true):=zH (by rw[Xi m0,Xi m1];rfl);have hgm:g<m.methods.length:=by omega
       clear m0 m1;go_wp2_with(first
        |(go_at_call 152;(with_reducible refine(Dn zO HXi HR).mono ?_);rintro e w6 ⟨rfl,hb⟩;have Ow:=zH (Cb.out.below hb Cb.out.lt);have HX6:=zH (HXi.out.trans (hb.mono HXi.out.size));have bG:=zH ((xz.out.below hb).more hb.size);clear hb)
        |(at_mapUpdate;refine Pg _ rfl _ _ _ 207 (.inl rfl) Tryz.underlying207 B m.methods.length g _ rfl Ow.out hgm hml rfl rfl ?_;intro w7 Cy iT;have N8:=zH Cy;have Zf:=zH (HX6.out.grown iT HX6.out.size (fun j hj=>by injection hj with hj;omega));have ol:=zH (q7v bG.out iT HF5.out);clear Cy iT))
       go_roundw;case rel=>exact⟨s+1,by omega,by go_num,zH (N8.out.cong (fun k _=>by rw[jS.out k,<-Bool.or_assoc];congr 1;exact Wj.mpr (by omega))),Zf,ol⟩
       case measure=>simp[intOf];omega
      ·have HR:Hid ((decide (0<=q)&& decide (q<m.methods.length))=false):=zH (by rw[X6];simpa using hm);have sU:Hid (∀k:Nat,k<m.methods.length->decide ((k:Int)=q)=false):=zH (fun k hk=>Xf (by omega));clear hm;go_wp2_with(go_at_call 152;(with_reducible refine(Dn zO HXi HR).mono ?_);rintro e w6 ⟨rfl,hb⟩;have Ow:=zH (Cb.out.below hb Cb.out.lt);have HX6:=zH (HXi.out.trans (hb.mono HXi.out.size));have bG:=zH ((xz.out.below hb).more hb.size);clear hb)
       go_roundw;case rel=>exact⟨s+1,by omega,by go_num,zH (Ow.out.cong (fun k hk=>by rw[jS.out k,sU.out k hk,Bool.or_false])),HX6,bG⟩
       case measure=>simp[intOf];omega
     ·obtain rfl:s=T.length:=by omega
      go_wp2_with fail
      go_roundw;case rel=>exact⟨t+1,by omega,by go_num,zH (Cb.out.cong (fun k _=>by rw[HT2.out k,XL])),HXi⟩
      case measure=>simp[intOf];omega
   ·obtain rfl:t=x.code.length:=by omega
    have HL:Hid (vr (fun g=>fo m (x.code.take x.code.length) g) m.methods.length=L):=zH (by rw[XL];exact sS.out.symm);go_wp2_with(go_at_call 154;(with_reducible refine(qbv HM hml HL).mono ?_);rintro e w9 ⟨v9,rfl,ho,hb⟩;have xA:=zH ho;have QU:=zH (HX.out.trans (hb.mono HX.out.size));have hz9:=HX.out.size;clear ho hb)
    go_ret;exact⟨v9,rfl,js xA.out (Xe HW.out.size hz9),zD HW QU⟩
 ·have HR1:Hid ((decide (0<=f)&& decide (f<m.methods.length))=false):=zH (by rw[X6];simpa using hf);rw[qi8 hf];have HW:=zH (zk (w:=w) (o:=(ze h m)));have zO:=zH (H.now HW.out);have HBX:=zH (qd w h m);clear H hf hc;go_enter Tryz.func112,Tryz.ntmps112;go_upto_region 1 with fail
  generalize w.alloc (ze h m)=w1 at*
  have HX0:=qP w1;obtain⟨q0,q1,q2,q3,q4,q5,q6⟩:=HBX.out;go_wp2_with(go_at_call 152;(with_reducible refine(Dn zO HX0 HR1).mono ?_);rintro e w2 ⟨rfl,hb⟩;have HX2:=zH hb;clear hb)
  go_ret;exact⟨_,rfl,XM _ _ _ _,zD HW HX2⟩
theorem qk7(m:za)(f:Int)(h:zh)(w:World)(H:zr w w.heap.size h m)(hn:m.classes.length<=1000)(hml:m.methods.length<=1048576)(hc:∀x ∈m.methods,x.code.length<=1048576):
  Calls Tryz.prog 112 #[zv h m,.int .i64 f] w fun e w'=>∃A c,e= .returned (.slice A (kO m f).length c)/\zd zu 1 w' w'.heap.size A c (kO m f)/\(∀ad,A=some ad->w.heap.size<=ad.block)/\Below w.heap.size w w':=
 (qk6 m f h w H hn hml hc).mono fun e w' hO=>by
  obtain⟨v,rfl,ho,hb⟩:=hO;obtain⟨A,c,rfl,hl,h1,h2⟩:=Ji ho;exact⟨A,c,rfl,⟨h1,h2,fun i x hi=>by
   obtain⟨ad,e,hb,hc⟩:=hl i (.int .i64 x) (by rw[XF,hi];rfl);exact⟨ad,e,hb,by show w'.cell? (ad.add (i*1))=_;rw[Xq];exact hc⟩⟩,fun ad e=>(ho.lt ad.block (by rw[e];rfl)).1,hb⟩
theorem q0a{m:za}{f:Int}{h:zh}{w0 w:World}{L:List Int}(HI:Hid (zr w0 w0.heap.size h m))(HX:Hid (Below w0.heap.size w0 w))(HC:Hid (m.classes.length<=1000/\m.methods.length<=1048576/\∀x ∈m.methods,x.code.length<=1048576))(HR:Hid (kO m f=L)):
  Calls Tryz.prog 112 #[zv h m,.int .i64 f] w fun e w'=>∃A c,e= .returned (.slice A L.length c)/\zd zu 1 w' w'.heap.size A c L/\(∀ad,A=some ad->w.heap.size<=ad.block)/\Below w.heap.size w w':=by
 have H:=qk7 m f h w (HI.out.now HX.out) HC.out.1 HC.out.2.1 HC.out.2.2;rw[HR.out]at H;exact H
set_option maxHeartbeats 3200000 in
theorem q9a(m:za)(h:zh)(w:World)(H:zr w w.heap.size h m)(hn:m.classes.length<=1000)(hml:m.methods.length<=1000)(hc:∀x ∈m.methods,x.code.length<=1048576):
  Calls Tryz.prog 59 #[zv h m] w fun e w'=>∃g,e= .returned (.slice (some ⟨g,0,none⟩) m.methods.length m.methods.length)/\w.heap.size<=g/\g<w'.heap.size/\zd (zM zu 1) 1 w' w'.heap.size (some ⟨g,0,none⟩) m.methods.length (vK m)/\Below w.heap.size w w':=by
 obtain⟨i0,hi,hz0,hz1,hz2⟩:=jJ KH;have HW:=zH (zk (w:=w) (o:=(ze h m)));have HI:=zH (H.now HW.out);have HBX:=zH (qd w h m);have HZ:Hid (w.heap.size<(w.alloc (ze h m)).heap.size):=zH (by simp);have HCO:Hid (m.classes.length<=1000/\m.methods.length<=1048576/\∀x ∈m.methods,x.code.length<=1048576):=(by grind [zH])
 obtain⟨n,hnn⟩:=zj (m.methods.length);have HN:=zH hnn;have av:Hid (∀k,k<n->(vK m)[k]? =some (kO m (k:Int))):=(by grind [zH,WH])
 have VO:Hid ((vK m).length=n):=zH (by grind [Ei]);rw[hnn]at hml⊢
 have hcap:=H.methods.cap;have hle:=H.methods.le;rw[hnn]at hle;clear H hc hnn;go_enter Tryz.func59,Tryz.ntmps59;go_upto_region 1 with fail
 generalize w.alloc (ze h m)=w1 at*
 obtain⟨q0,q1,q2,q3,q4,q5,q6⟩:=HBX.out;rw[HN.out]at q3;go_wp2_with(at_make;(refine wpList_make_full _ rfl _ _ 53 rfl w1.heap.size 27 i0 (.slice none 0 0) 1 Tryz.underlying53 hi hz0 hz1 .i64 .i64 _ _ n rfl rfl rfl rfl (by grind) (by unfold maxLen;omega) (zn _) ?_);intro w2 hown hgrow;have qm:=zH hown;have HB2:=zH ((zb w1.heap.size w1).grown hgrow (zn _) (by grind));clear hown hgrow)
 have HG2:Hid (YD w2 w1.heap.size (vK m) n 0 (List.replicate n (.slice none 0 0))):=zH (by
  have h1:=o5 qm.out;rw[mi (v:= .slice none 0 0) rfl]at h1;exact⟨h1,(by grind),(by omega),(by grind)⟩)
 clear q0 q1 q2 q3 q4 q5 q6 qm;try simp only[HN.out]
 go_loopw [11] (fun i wr=>∃(k:Nat) (vs:List Value),k<=n/\i= .int .i64 k/\Hid (YD wr w1.heap.size (vK m) n k vs)/\Hid (Below w1.heap.size w1 wr)) (fun i _=>n - (intOf i).toNat)
 case atStart=>grind
 case round=>
  clear HG2 HB2;obtain⟨k,vs,hk,rfl,HG,HX⟩:=hrel;by_cases hlt:k<n
  ·obtain⟨q0,q1,q2,q3,q4,q5,q6⟩:=HBX.out.keep HX.out HZ.out;obtain⟨L,hL⟩:=zj (kO m (k:Int));have HL:=zH hL;have kL:Hid ((vK m)[k]? =some L):=zH (by rw[av.out k hlt,hL]);clear hL;go_wp2_with(go_at_call 112;(with_reducible refine(q0a HI HX HCO HL).mono ?_);rintro e w5 ⟨A5,c5,rfl,hs,hA,hb⟩;have nX:=zH hs;have QS:Hid (∀ad,A5=some ad->w1.heap.size<ad.block):=zH (fun ad e=>by have h1:=hA ad e;have h2:=zm.lt HG.out.blk;omega);have Gc:=zH (HG.out.keep hb);have qc:=zH (HX.out.trans (hb.mono HX.out.size));obtain⟨v0,c0⟩:=Gc.out.cell hlt;have f0:=zm.free Gc.out.blk k;clear hs hA hb)
   go_roundw;case rel=>exact⟨k+1,_,by omega,by go_num,zH (Gc.out.put hlt kL.out nX.out QS.out),zH (qc.out.setCell (p:=⟨w1.heap.size,k,none⟩) (zn _) _)⟩
   case measure=>simp[intOf];omega
  ·go_wp2_with fail
   go_ret;exact⟨w1.heap.size,rfl,Xg HZ.out,zm.lt HG.out.blk,HG.out.slc VO.out (by omega) (by omega),HW.out.trans (HX.out.mono (Xg HZ.out))⟩
theorem qe5{m:za}{h:zh}{n:Nat}{EL:List (List Int)}{w0 w:World}(HI:Hid (zr w0 w0.heap.size h m))(HX:Hid (Below w0.heap.size w0 w))(HC:Hid (m.classes.length<=1000/\m.methods.length<=1000/\∀x ∈m.methods,x.code.length<=1048576))(HN:Hid (m.methods.length=n))(HE:Hid (vK m=EL)):
  Calls Tryz.prog 59 #[zv h m] w fun e w'=>∃g,e= .returned (.slice (some ⟨g,0,none⟩) n n)/\w.heap.size<=g/\g<w'.heap.size/\zd (zM zu 1) 1 w' w'.heap.size (some ⟨g,0,none⟩) n EL/\Below w.heap.size w w':=by
 have H:=q9a m h w (HI.out.now HX.out) HC.out.1 HC.out.2.1 HC.out.2.2;rw[HN.out,HE.out]at H;exact H
theorem qb3{EL:List (List Int)}{n:Nat}{E:Option Addr}{ce:Nat}{w:World}(hE:Hid (zd (zM zu 1) 1 w w.heap.size E ce EL))(hn:Hid (EL.length=n))(hl:n<=12)(he:Hid (∀l ∈EL,l.length<=1048576)):
  Calls Tryz.prog 60 #[.slice E n ce] w (WV EL n w):=
 q62 EL n E ce w hE.out hn.out (by omega) he.out
theorem q6a{EL:List (List Int)}{n np:Nat}{E:Option Addr}{ce:Nat}{p:List Nat}{A:Option Addr}{c:Nat}{w:World}{b:Bool}(hE:Hid (zd (zM zu 1) 1 w w.heap.size E ce EL))(hn:Hid (EL.length=n))(hl:n<=12)(he:Hid (Jl EL n/\∀g:Nat,(EL[g]?.getD []).length<=12))(hp:Hid ((∀g ∈p,g<n)/\p.length<=12))(hA:Hid (zw w w.heap.size A (qe p)))(hc:Hid (p.length<=c/\c<=9223372036854775807))(hk:Hid (p.length=np))(hb:Hid (iL EL p=b)):
  Calls Tryz.prog 62 #[.slice E n ce,.slice A np c] w fun e w'=>e= .returned (.bool b)/\Below w.heap.size w w':=by
 obtain rfl:=hk.out;have H:=q4o EL n E ce p A c w hE.out hn.out (by omega) he.out.1 hp.out.1 hA.out hc.out.1 hc.out.2;rw[hb.out]at H;exact H
theorem qcc{w:World}{gi:Nat}{p:List Nat}(hg:gi<w.heap.size)(h:∀(j v:Nat),p[j]? =some v->w.cell? ⟨gi,j,none⟩=some (.int .i64 (v:Int))):zw w w.heap.size (some ⟨gi,0,none⟩) (qe p):=fun j u hj=>by
 unfold qe at hj;rw[XF]at hj;cases hp:p[j]? with
 |none=>rw[hp]at hj;cases hj
 |some v=>
  rw[hp]at hj;injection hj with hj;subst hj;refine⟨_,rfl,hg,?_⟩;rw[show Addr.add ⟨gi,0,none⟩ j=⟨gi,j,none⟩by unfold Addr.add;split<;>simp_all];exact h j v hp
theorem qk3{EL:List (List Int)}{n:Nat}{P:List (List Nat)}(h:Qk EL n P){i f:Nat}(hi:i<P.length)(hf:f ∈P[i]):jH EL n f f=iL EL P[i]:=
 XQ.mpr ((h.cyc hi hf).symm.trans qk4.symm)
def sqV(n:Nat)(G:List Nat):List Value:=(G.map fun g=>Value.slice (some ⟨g,0,none⟩) n n)++List.replicate (n - G.length) (Value.slice none 0 0)
structure qU(w:World)(gO n:Nat)(G:List Nat)(W:List (List Bool)):Prop where
 blk:zm w gO (sqV n G) 152
 len:G.length=W.length
 rows:∀(i:Nat) g r,G[i]? =some g->W[i]? =some r->zm w g (r.map Value.bool) 4/\r.length=n
 diff:G.Nodup
 apart:∀g ∈G,¬g=gO
theorem qU.keep{w w':World}{gO n:Nat}{G:List Nat}{W:List (List Bool)}(h:qU w gO n G W)(hb:Below w.heap.size w w'):qU w' gO n G W:=
 ⟨h.blk.keep hb h.blk.lt,h.len,fun i g r hg hr=>⟨(h.rows i g r hg hr).1.keep hb (h.rows i g r hg hr).1.lt,(h.rows i g r hg hr).2⟩,h.diff,h.apart⟩
theorem zm.other{w:World}{g:Nat}{vs:List Value}{T:TypeId}(h:zm w g vs T){p:Addr}(v:Value)(hp:¬p.block=g):zm (w.setCell p v) g vs T:=by
 unfold zm at h⊢
 grind [heap_setCell_other]
theorem qU.row_at{w:World}{gO n i:Nat}{G:List Nat}{W:List (List Bool)}(h:qU w gO n G W)(hi:i<G.length):w.cell? ⟨gO,i,none⟩=some (.slice (some ⟨G[i],0,none⟩) n n):=
 h.blk.cells _ _ (by
  unfold sqV
  grind)
theorem qU.row_in{w:World}{gO n i:Nat}{G:List Nat}{W:List (List Bool)}(h:qU w gO n G W)(hi:i<G.length):zm w G[i] ((W[i]?.getD []).map Value.bool) 4/\(W[i]?.getD []).length=n:=by
 have hw:i<W.length:=by rw[<-h.len];exact hi
 rw[Xc hw,Wo];exact h.rows i G[i] W[i] (by grind) (by grind)
theorem qU.bit_at{w:World}{gO n i j:Nat}{G:List Nat}{W:List (List Bool)}(h:qU w gO n G W)(hi:i<G.length)(hj:j<n):w.cell? ⟨G[i],j,none⟩=some (.bool (qw W i j)):=by
 obtain⟨h1,h2⟩:=h.row_in hi;refine h1.cells _ _ ?_;unfold qw
 grind
theorem qU.set{w:World}{gO n i j:Nat}{G:List Nat}{W:List (List Bool)}(h:qU w gO n G W)(hi:i<G.length)(b:Bool):qU (w.setCell ⟨G[i],j,none⟩ (.bool b)) gO n G (Qs W i j b):=by
 obtain⟨h1,h2⟩:=h.row_in hi;refine⟨h.blk.other _ (h.apart _ (Xd hi)),by unfold Qs;rw[XH];exact h.len,fun k g r hg hr=> ?_,h.diff,h.apart⟩;unfold Qs at hr;rw[Wf]at hr;by_cases hk:i=k
 ·subst hk;have hw:i<W.length:=by grind
  rw[Xb rfl,Xb hw]at hr;injection hr with hr;subst hr;rw[Xc hi]at hg;injection hg with hg;subst hg;refine⟨?_,by grind⟩;rw[Wd];exact h1.set j _
 ·rw[Xa hk]at hr;obtain⟨h3,h4⟩:=h.rows k g r hg hr;refine⟨h3.other _ (fun e=>hk ?_),h4⟩;have e1:G[i]? =G[k]? :=by grind
  exact(List.getElem?_inj hi h.diff).mp e1
theorem qU.add{w:World}{gO n g:Nat}{G:List Nat}{W:List (List Bool)}{r:List Bool}(h:qU w gO n G W)(hn:G.length<n)(hr:r.length=n)(hg:zm w g (r.map Value.bool) 4)(hG:∀x ∈G,¬x=g)(hO:¬g=gO):
  qU (w.setCell ⟨gO,G.length,none⟩ (.slice (some ⟨g,0,none⟩) n n)) gO n (G++[g]) (W++[r]):=by
 refine⟨?_,by rw[Xh,Xh,h.len];rfl,fun k x y hx hy=> ?_,?_,fun x hx=> ?_⟩
 ·have e:sqV n (G++[g])=(sqV n G).set G.length (.slice (some ⟨g,0,none⟩) n n):=by
   unfold sqV;obtain⟨d,hd⟩:∃d,n - G.length=d+1:=⟨n - G.length - 1,by omega⟩
   grind
  rw[e];exact h.blk.set _ _
 ·rcases Xl k G.length with q|q
  ·rw[XO q]at hx;rw[XO (by rw[<-h.len];exact q)]at hy;obtain⟨h3,h4⟩:=h.rows k x y hx hy;exact⟨h3.other _ (fun e=>h.apart x (by grind) e.symm),h4⟩
  ·rw[XN q]at hx;have hz:k - G.length=0:=by
    grind
   rw[hz]at hx;simp at hx;subst hx;rw[XN (by rw[<-h.len];exact q),<-h.len,hz]at hy;simp at hy;subst hy;exact⟨hg.other _ (fun e=>hO e.symm),hr⟩
 ·rw[List.nodup_append];exact⟨h.diff,by simp,(by grind)⟩
 ·rcases Xu.mp hx with q|q
  ·exact h.apart x q
  grind
set_option maxHeartbeats 3200000 in
theorem qbx(m:za)(op a b:Int)(h:zh)(w:World)(H:zr w w.heap.size h m)(hn:m.classes.length<=1000)(hf:∀x ∈m.classes,x.fields.length<=1000)(GK:op=23->IntKind.i64.wrap (1+a)=1+a)(ht:∀t ∈qC m op a b,0<=t/\t<m.methods.length):
  Calls Tryz.prog 15 #[zv h m,qt op a b] w fun e w'=>e= .returned (.int .i64 (QP m op a b))/\Below w.heap.size w w':=by
 obtain⟨hq,hc,hb,hz⟩:=uP h m op a b w;have HW:=zH hb;have HC:=zH hc;have HZ:=zH hz;have HBX:=zH hq;have HI:=zH (H.now hb);have HN:=zH hn;have HF:=zH hf;have HT:=zH ht;have hle:=H.methods.le;have hcap:=H.methods.cap;clear hb hq hc hz H hf ht;obtain⟨v,hv⟩:=zj (QP m op a b);have HV:=zH hv;rw[hv];clear hv;go_enter Tryz.func15,Tryz.ntmps15;go_upto_region 1 with fail
 generalize(w.alloc (ze h m)).alloc (.cells #[.int .i64 op,.int .i64 a,.int .i64 b] 50)=w1 at*
 have HL:Hid (w.heap.size<w1.heap.size/\w.heap.size+1<w1.heap.size):=zH (by have:=HZ.out;exact⟨by omega,by omega⟩);have HX:=qP w1;obtain⟨q0,q1,q2,q3,q4,q5,q6⟩:=HBX.out;obtain⟨j0,j1,j2⟩:=qv HC.out;by_cases h22:op=22
 ·subst h22;obtain⟨L,hL⟩:=zj (qg m.classes a);have Qx:L.length<=1000000:=by rw[<-hL];exact yK HF.out hn a
  have HR:Hid (v=1+(L.length:Int)):=zH (by rw[<-HV.out,<-hL];rfl);have oq:=zH hL;clear hL GK;go_wp2_with(first|(go_at_call 41;(with_reducible refine(DF HI HX oq hn HF).mono ?_);rintro e w3 ⟨v3,rfl,ho,hb⟩;obtain⟨A1,k1,rfl,hS,_⟩:=Yq ho;have zp:=zi HX hb;obtain⟨q0,q1,q2,q3,q4,q5,q6⟩:=HBX.out.keep zp.out HL.out.1;have j1:=(HC.out.keep zp.out HL.out.2) 1 _ rfl;clear ho hb hS))
  go_ret;exact⟨by rw[HR.out];rfl,zD HW zp⟩
 by_cases h23:op=23
 ·subst h23;have HR:Hid (v=1+a):=zH (by rw[<-HV.out];rfl);have GK:=GK rfl;go_wp2_with fail
  go_ret;exact⟨by rw[HR.out];rfl,HW.out⟩
 obtain⟨L,hL⟩:=zj (qC m op a b);have Qx:L.length<=1000:=by rw[<-hL];exact Iw m op a b hn
 have HR:Hid (v=jp m L):=zH (by rw[<-HV.out,<-hL];unfold QP;rw[Xa h22,Xa h23]);have Vu:=zH hL;have HT:Hid (∀t ∈L,0<=t/\t<(m.methods.length:Int)):=zH (by rw[<-hL];exact HT.out);clear hL GK;go_wp2_with(first|(go_at_call 42;(with_reducible refine(IC HI HX HN Vu).mono ?_);rintro e w3 ⟨v3,rfl,ho,hb⟩;have zp:=zi HX hb;obtain⟨A9,c9,rfl,nN,hc9,hk9⟩:=Ji ho;have BM:=zH nN;obtain⟨q0,q1,q2,q3,q4,q5,q6⟩:=HBX.out.keep zp.out HL.out.1;obtain⟨j0,j1,j2⟩:=qv (HC.out.keep zp.out HL.out.2);clear ho hb nN))
 go_loopw [5,7] (fun d i wr=>∃k:Nat,k<=L.length/\i= .int .i64 k/\d= .int .i64 (jp m (L.take k))/\Hid (Below w3.heap.size w3 wr)) (fun _ i _=>L.length - (intOf i).toNat)
 case atStart=>exact⟨0,Xn _,rfl,rfl,zH (zb _ _)⟩
 case round=>
  obtain⟨k,hk,rfl,rfl,xQ⟩:=hrel;have BB:=zH (zD zp xQ);obtain⟨q0,q1,q2,q3,q4,q5,q6⟩:=HBX.out.keep BB.out HL.out.1;obtain⟨P,hP⟩:=zj (jp m (L.take k));have HP:=zH hP;rw[hP];clear hP;by_cases hlt:k<L.length
  ·obtain⟨a9,rfl,VV,p9⟩:=Wv BM.out hlt;have p9:=(xQ.out.cell (p:=a9.add k) (by exact zZ VV)).trans p9;have ki:Hid (jp m (L.take (k+1))=ko m P L[k]):=zH (by rw[K9 hlt,HP.out]);obtain⟨t0,t1⟩:=HT.out L[k] (Xd hlt);generalize L[k]=t at*
   obtain⟨g,rfl⟩:=Xj t0;have hg:g<m.methods.length:=by omega
   obtain⟨ad,hx,eA,hab,hin,hcm⟩:=Zx HI.out hg;have hc6:=(hcm.keep BB.out (by exact zZ hab)).c6;have eg:zA m (g:Int)=m.methods[g]:=by unfold zA;rw[Xo,Xc hg];rfl
   have ki:Hid (jp m (L.take (k+1))=if m.methods[g].pot>P then m.methods[g].pot else P):=zH (by rw[ki.out];unfold ko;rw[eg]);rw[eA]at q3;generalize m.methods[g]=x at*
   obtain⟨u,hu⟩:=zj (x.pot);rw[hu]at hc6 ki;clear hu hin hcm eg eA;by_cases hgt:u>P
   ·have HY:Hid (jp m (L.take (k+1))=u):=zH (by rw[ki.out,Xb hgt]);go_wp2_with fail
    go_region
    go_wp2_with fail
    go_region
    go_wp2_with fail
    go_roundw;case rel=>exact⟨k+1,by omega,by go_num,by rw[HY.out],zH xQ.out.drew.drew⟩
    case measure=>simp[intOf];omega
   ·have HY:Hid (jp m (L.take (k+1))=P):=zH (by rw[ki.out,Xa hgt]);go_wp2_with fail
    go_region
    go_wp2_with fail
    go_roundw;case rel=>exact⟨k+1,by omega,by go_num,by rw[HY.out],zH xQ.out.drew⟩
    case measure=>simp[intOf];omega
  ·have HY:Hid (v=P):=zH (by rw[HR.out,<-HP.out,XA (by omega)]);go_wp2_with fail
   go_ret;exact⟨by rw[HY.out];rfl,zD HW BB⟩
theorem qg8{m:za}{op a b v:Int}{h:zh}{w0 w:World}(HI:Hid (zr w0 w0.heap.size h m))(HX:Hid (Below w0.heap.size w0 w))(HN:Hid (m.classes.length<=1000))(HF:Hid (∀x ∈m.classes,x.fields.length<=1000))(HA:Hid (op=23->IntKind.i64.wrap (1+a)=1+a))(HT:Hid (∀t ∈qC m op a b,0<=t/\t<m.methods.length))(HV:Hid (QP m op a b=v)):
  Calls Tryz.prog 15 #[zv h m,qt op a b] w fun e w'=>e= .returned (.int .i64 v)/\Below w.heap.size w w':=by
 have H:=qbx m op a b h w (HI.out.now HX.out) HN.out HF.out HA.out HT.out;rw[HV.out]at H;exact H
theorem Dr{op a b:Int}(h:qs op a b=true):0<=a/\a<=255/\0<=b/\b<=255:=by
 have:=XD h;omega
theorem UL{m:za}{c:Int}{ab:List Int}:∀{l:List Int} {k:Nat},Yp m c ab k l=true->∀s ∈l,s.toNat<m.methods.length
 | [],_,_,s,hs=>nomatch hs
 |t::l,k,h,s,hs=>by
  have h:(ZB m c ab k t&& Yp m c ab (k+1) l)=true:=h;rw[Xt]at h;rcases XZ.mp hs with rfl|hs
  ·have h1:=h.1;unfold ZB at h1
   grind
  ·exact UL h.2 s hs
theorem q4m{m:za}(hm:zP m){k b t:Int}(h:kP m.classes k b=some t):0<=t/\t<m.methods.length:=by
 unfold kP at h;split at h
 ·cases hc:m.classes[k.toNat]? with
  |none=>grind
  |some c=>
   rw[hc]at h;have h:c.slots[b.toNat]? =some t:=h;have ht:t ∈c.slots:=(by grind)
   have hb:=hm.cls _ c hc;have hf:=(hm.fits.ct c (by grind)).st t ht;unfold jG at hb;simp only[Xt]at hb;have:=UL hb.2.2.2.2 t ht;omega
 ·cases h
theorem Rl{m:za}(hm:zP m){x:zl}(hx:x ∈m.methods){op a b:Int}(hi:(op,a,b) ∈x.code):∀t ∈qC m op a b,0<=t/\t<m.methods.length:=fun t ht=>by
 unfold qC at ht;split at ht
 ·rename_i h31;subst h31;have hn:=(hm.method hx).co _ hi;have hs:=Dr ((hm.method hx).fits.ct _ hi);dsimp only at hn hs;have hn:decide (a<m.methods.length)=true:=hn
  grind
 ·split at ht
  ·unfold QO at ht;obtain⟨k,_,hk⟩:=List.mem_filterMap.mp ht;exact q4m hm hk
  ·cases ht
theorem qh0{m:za}(hm:zP m)(t:Int):0<=(zA m t).pot/\(zA m t).pot<=4096:=by
 unfold zA;cases h:m.methods[t.toNat]? with
 |none=>grind
 |some x=>have:=(hm.method (Xr h)).fits;exact⟨this.p0,this.p1⟩
theorem Kw{m:za}(hm:zP m)(L:List Int):0<=jp m L/\jp m L<=4096:=by
 have H:∀(L:List Int) (p:Int),0<=p->p<=4096->0<=L.foldl (ko m) p/\L.foldl (ko m) p<=4096:=by
  intro L
  induction L with
  |nil=>grind
  |cons t L ih=>
   intro p h1 h2;have:=qh0 hm t;refine ih (ko m p t) ?_ ?_<;>unfold ko<;>split<;>omega
 exact H L 0 (by decide) (by decide)
theorem R8{m:za}(hm:zP m){x:zl}(hx:x ∈m.methods){op a b:Int}(hi:(op,a,b) ∈x.code):0<=QP m op a b/\QP m op a b<=1000001:=by
 have hs:=Dr ((hm.method hx).fits.ct _ hi);dsimp only at hs;have hf:=yK (cl:=m.classes) (fun c hc=>by have:=(hm.fits.ct c hc).fl;omega) (by have:=hm.fits.cl;omega) a;have hp:=Kw hm (qC m op a b);unfold QP;omega
theorem I4{m:za}{x:zl}{op a b v:Int}{h:zh}{w0 w:World}(HI:Hid (zr w0 w0.heap.size h m))(HX:Hid (Below w0.heap.size w0 w))(HM:Hid (zP m))(QT:Hid (x ∈m.methods))(HC:Hid ((op,a,b) ∈x.code))(HV:Hid (QP m op a b=v)):
  Calls Tryz.prog 15 #[zv h m,qt op a b] w fun e w'=>e= .returned (.int .i64 v)/\Below w.heap.size w w':=by
 refine qg8 HI HX (zH (by have:=HM.out.fits.cl;omega)) (zH (fun c hc=>by have:=(HM.out.fits.ct c hc).fl;omega)) (zH (fun _=> ?_)) (zH (Rl HM.out QT.out HC.out)) HV;have hs:=Dr ((HM.out.method QT.out).fits.ct _ HC.out)
 grind [IntWalk.i64_in]
def ZP(m:za)(n:Int):Bool:=match m.methods[n.toNat]? with
 |none=>false
 |some f=>(f.args.all fun t=>decide (t=(1,0)))&& (decide (f.ret=(1,0))||decide (f.ret=(5,0)))
theorem q97{m:za}{n:Nat}(h:m.methods.length<=n):ZP m (n:Int)=false:=by
 unfold ZP;rw[Xo,XE h]
theorem q96{m:za}{n:Nat}{f:zl}(h:m.methods[n]? =some f):ZP m (n:Int)=((f.args.all fun t=>decide (t=(1,0)))&& (decide (f.ret=(1,0))||decide (f.ret=(5,0)))):=by
 unfold ZP;rw[Xo,h]
set_option maxHeartbeats 3200000 in
theorem q69(m:za)(n:Nat)(h:zh)(w:World)(H:zr w w.heap.size h m):
  Calls Tryz.prog 103 #[zv h m,.int .i64 (n:Int)] w fun e w'=>e= .returned (.bool (ZP m (n:Int)))/\Below w.heap.size w w':=by
 have HW0:=zH (vU (w:=w) (h:=h) (m:=m));have q2m:=zH (qd w h m);have HZ0:Hid (w.heap.size<(w.alloc (ze h m)).heap.size):=zH (by simp);have HI0:=zH (H.now HW0.out);have l3:=H.methods.le;have bz:=H.methods.cap;clear H;go_enter Tryz.func103,Tryz.ntmps103;go_upto_region 1 with fail
 have hz1:(w.alloc (ze h m)).heap.size=w.heap.size+1:=by simp
 have HZ1:=zH hz1;clear hz1;generalize w.alloc (ze h m)=w0 at*
 obtain⟨q0,q1,q2,q3,q4,q5,q6⟩:=q2m.out;by_cases hnl:n<m.methods.length
 ·obtain⟨zE,e3,j6,hcm⟩:=HI0.out.methods.row.at_ hnl;have gD:=zH (q96 (Xc hnl));have VP:=zH e3;generalize m.methods[n]=f at*
  obtain⟨fa,fl,⟨qi,qB⟩,fc,fd,fp,fh⟩:=f;obtain⟨⟨Vn,j0,f0,hf0⟩,_,f2,f3,_,_,_,_⟩:=hcm;dsimp only at f0 f2 f3 hf0;rw[e3]at q3;go_upto_region 4 with fail
  have hw1:=zk (w:=w0) (o:=(.cells #[.int .i64 1,.int .i64 0] 45));have Qf:=zH (qr w0 [.int .i64 1,.int .i64 0] 45);have FT:Hid (w0.heap.size<(w0.alloc (.cells #[.int .i64 1,.int .i64 0] 45)).heap.size):=zH (by simp);have HBX:=zH (q2m.out.keep hw1 HZ0.out);have HZ:=zH (Xp HZ0.out hw1.size);have Zp:=zH (Xg (Xp HZ0.out hw1.size));have HW:=zH (HW0.out.trans (hw1.mono (Xg HZ0.out)));have dE:=zH ((hf0.below_to zf.keeps hw1 (zn _)).keep' zf.keeps hw1.size (fun _ _=>rfl));have Yd:(zE.add (n*8)).block<w0.heap.size:=by rw[zC];exact j6
  have f0:=(hw1.cell (p:=zE.add (n*8)) Yd).trans f0;have f2:=(hw1.cell (p:=zc (zE.add (n*8)) 2) Yd).trans f2;have f3:=(hw1.cell (p:=zc (zE.add (n*8)) 3) Yd).trans f3;have vH:=zH (Xp Yd hw1.size);have jX:Hid ((w0.alloc (.cells #[.int .i64 1,.int .i64 0] 45)).cell? (zE.add (n*8))=some (.slice Vn fa.length j0)/\(w0.alloc (.cells #[.int .i64 1,.int .i64 0] 45)).cell? (zc (zE.add (n*8)) 2)=some (.int .i64 qi)/\(w0.alloc (.cells #[.int .i64 1,.int .i64 0] 45)).cell? (zc (zE.add (n*8)) 3)=some (.int .i64 qB)):=zH ⟨f0,f2,f3⟩;have hj0:=hf0.le;have Nl:=hf0.cap;have NN:=zH HZ1.out;rw[HZ1.out]at Qf FT;try rw[HZ1.out]
  clear e3 hw1 hf0 f0 f2 f3 Yd j6 q0 q1 q2 q3 q4 q5 q6;generalize w0.alloc (.cells #[.int .i64 1,.int .i64 0] 45)=w1 at*
  have HX:=qP w1;obtain⟨q0,q1,q2,q3,q4,q5,q6⟩:=HBX.out.keep HX.out HZ.out;rw[VP.out]at q3;obtain⟨f0,f2,f3⟩:=jX.out;have n0:=Qf.out 0 _ rfl;have n1:=Qf.out 1 _ rfl;go_wp2_with fail
  go_loopw [22] (fun i wr=>∃k:Nat,k<=fa.length/\i= .int .i64 k/\Hid (∀t ∈fa.take k,decide (t=(1,0))=true)/\Hid (Below w1.heap.size w1 wr)) (fun i _=>fa.length - (intOf i).toNat)
  case atStart=>exact⟨0,by omega,rfl,zH (by simp),HX⟩
  case round=>
   clear HX q0 q1 q2 q3 q4 q5 q6 f0 f2 f3 n0 n1;obtain⟨k,hk,rfl,HN,HX⟩:=hrel;obtain⟨q0,q1,q2,q3,q4,q5,q6⟩:=HBX.out.keep HX.out HZ.out;rw[VP.out]at q3;have f2:=(HX.out.cell (p:=zc (zE.add (n*8)) 2) vH.out).trans jX.out.2.1;have f3:=(HX.out.cell (p:=zc (zE.add (n*8)) 3) vH.out).trans jX.out.2.2;have n0:=(Qf.out.keep HX.out FT.out) 0 _ rfl;have n1:=(Qf.out.keep HX.out FT.out) 1 _ rfl;have hnz:w.heap.size+1<wr.heap.size:=Xp FT.out HX.out.size;have hne:¬w.heap.size+1=wr.heap.size:=by omega
   by_cases hlt:k<fa.length
   ·obtain⟨ad,rfl,hab,t0,t1⟩:=dE.out.row.at_ hlt;have t0:=(HX.out.cell (p:=ad.add (k*2)) (by exact zZ hab)).trans t0;have t1:=(HX.out.cell (p:=zc (ad.add (k*2)) 1) (by show(ad.add _).block<_;rw[zC];exact hab)).trans t1;have qz:=zH (fun g:(fun t:Int×Int=>decide (t=(1,0))) fa[k]=false=>(JP hlt g:(fa.all fun t=>decide (t=(1,0)))=false));have HYE:=zH (fun g:(fun t:Int×Int=>decide (t=(1,0))) fa[k]=true=>Jk hlt HN.out g);generalize fa[k]=t at*
    obtain⟨x,y⟩:=t;dsimp only at t0 t1;by_cases hxy:x=1/\y=0
    ·obtain⟨rfl,rfl⟩:=hxy;have HY:=zH (HYE.out rfl);go_wp2_with fail
     go_roundw;case rel=>exact⟨k+1,by omega,by go_num,HY,zH (HX.out.alloc HX.out.size _)⟩
     case measure=>simp[intOf];omega
    ·have ES:=zH (show ZP m (n:Int)=false by rw[gD.out];(try dsimp only);rw[qz.out (Xf (by simpa using hxy))];rfl);have qE:¬x=1\/(x=1/\¬y=0):=by omega
     clear hxy;rcases qE with qE|⟨rfl,qE⟩
     all_goals
      go_wp2_with fail
      go_ret;exact⟨by rw[ES.out];rfl,HW.out.trans ((HX.out.alloc HX.out.size _).mono Zp.out)⟩
   ·have HA:=zH (show(fa.all fun t=>decide (t=(1,0)))=true from JQ (l:=fa) HN.out (by omega));by_cases h1:qi=1/\qB=0
    ·obtain⟨rfl,rfl⟩:=h1;have ES:=zH (show ZP m (n:Int)=true by rw[gD.out];(try dsimp only);rw[HA.out];rfl);go_wp2_with fail
     go_ret;exact⟨by rw[ES.out];rfl,HW.out.trans ((HX.out.alloc HX.out.size _).mono Zp.out)⟩
    ·by_cases h5:qi=5/\qB=0
     ·obtain⟨rfl,rfl⟩:=h5;have ES:=zH (show ZP m (n:Int)=true by rw[gD.out];(try dsimp only);rw[HA.out];rfl);go_wp2_with fail
      go_ret;exact⟨by rw[ES.out];rfl,HW.out.trans ((HX.out.alloc HX.out.size _).mono Zp.out)⟩
     ·have ES:=zH (show ZP m (n:Int)=false by rw[gD.out];(try dsimp only);rw[HA.out,Xf (by simpa using h1),Xf (by simpa using h5)];rfl);rcases(show(¬qi=1/\¬qi=5)\/(qi=1/\¬qB=0)\/(qi=5/\¬qB=0)by omega)with⟨g1,g5⟩|⟨rfl,g⟩|⟨rfl,g⟩
      all_goals
       clear h1 h5;go_wp2_with fail
       go_ret;exact⟨by rw[ES.out];rfl,HW.out.trans ((HX.out.alloc HX.out.size _).mono Zp.out)⟩
 ·have ES:=zH (q97 (m:=m) (Nat.le_of_not_lt hnl));go_wp2_with fail
  go_ret;exact⟨by rw[ES.out];rfl,HW0.out⟩
def mV(op a b:Int):zl:=⟨[],[],(0,0),[(op,a,b)],0,0,[]⟩
def jL(m:za)(op a b:Int):za:={m with methods:=m.methods++[mV op a b]}
theorem Au(m:za)(op a b:Int):(jL m op a b).methods.length=m.methods.length+1:=by simp[jL]
theorem Y2{m:za}{op a b:Int}{t:Nat}(h:t<m.methods.length):zA (jL m op a b) (t:Int)=zA m (t:Int):=by
 unfold zA jL
 grind
theorem qb7(m:za)(op a b:Int):zA (jL m op a b) (m.methods.length:Int)=mV op a b:=by
 unfold zA jL
 grind
theorem Pj(m:za)(op a b x y z:Int):qC (jL m op a b) x y z=qC m x y z:=rfl
theorem RJ{m:za}(L:List Int):(∀t ∈L,(zA m t).pot<=jp m L)/\0<=jp m L/\(jp m L=0\/∃t ∈L,(zA m t).pot=jp m L):=by
 have H:∀(L:List Int) (p:Int),(∀t ∈L,(zA m t).pot<=L.foldl (ko m) p)/\p<=L.foldl (ko m) p/\(L.foldl (ko m) p=p\/∃t ∈L,(zA m t).pot=L.foldl (ko m) p):=by
  intro L
  induction L with
  |nil=>grind
  |cons a L ih=>
   intro p;obtain⟨h1,h2,h3⟩:=ih (ko m p a);have hp:p<=ko m p a/\(zA m a).pot<=ko m p a/\(ko m p a=p\/ko m p a=(zA m a).pot):=by
    unfold ko;omega
   grind
 exact H L 0
theorem q3x{m x:za}{L M:List Int}(h1:∀t ∈L,t ∈M)(h2:∀t ∈M,t ∈L)(hp:∀t ∈L,(zA x t).pot=(zA m t).pot):jp x L=jp m M:=by
 obtain⟨a1,a2,a3⟩:=RJ (m:=x) L;obtain⟨b1,b2,b3⟩:=RJ (m:=m) M
 grind
theorem Rt{m:za}{op a b:Int}(ht:∀t ∈qC m op a b,0<=t/\t<m.methods.length)(g:Int):g ∈kO (jL m op a b) (m.methods.length:Int)↔g ∈qC m op a b:=by
 unfold kO;rw[Xb (by grind [Au]),qb7,Au];unfold vZ;rw[X9];constructor
 ·rintro⟨k,hk,rfl⟩;rw[List.mem_filter]at hk;have:=hk.2;simp[VC,qb,mV,Pj]at this
  grind
 ·intro hg;obtain⟨h0,h1⟩:=ht g hg;refine⟨g.toNat,?_,by omega⟩;rw[List.mem_filter,Wb];refine⟨by omega,?_⟩;rw[show((g.toNat:Nat):Int)=g by omega];simp[VC,qb,mV,Pj]
  grind
theorem qb6{m:za}{op a b:Int}(ht:∀t ∈qC m op a b,0<=t/\t<m.methods.length):jp (jL m op a b) (kO (jL m op a b) (m.methods.length:Int))=jp m (qC m op a b):=
 (by grind [q3x,Rt,Xj,Y2])
theorem T9:(Tryz.prog.info? 48).map (fun i=>(i.zero.map (fun z=>z.cells.size),i.size,i.bytes))=some (some 8,8,128):=by kernel_rfl
theorem R6{P:Program}{t:TypeId}{k b:Nat}(h:(P.info? t).map (fun i=>(i.zero.map (fun z=>z.cells.size),i.size,i.bytes))=some (some k,k,b)):∃i z,P.info? t=some i/\i.zero=some z/\z.cells.size=k/\i.size=k/\i.bytes=b:=by
 cases hi:P.info? t with
 |none=>grind
 |some i=>
  simp_all
def q12(zs:List (zl×qH))(n:Nat)(w:World)(e:Ending)(w':World):Prop:=∃gi ci,e= .returned (.slice (some ⟨gi,0,none⟩) n ci)/\w'.ownsRow w.heap.size 48 8 (.slice (some ⟨gi,0,none⟩) n ci) n (Jw zs)/\Below w.heap.size w w'
theorem q78(zs:List (zl×qH))(n:Nat)(ad:Addr)(c B:Nat)(w:World)(hn:zs.length=n)(h:zw w B (some ad) (Jw zs))(hB:B<=w.heap.size)(h0:0<n)(hl:n<=1048576):
  Calls Tryz.prog 197 #[.slice (some ad) n c] w (q12 zs n w):=by
 have hq:=fun w=>Lib.run_eql_slice_nil (P:=Tryz.prog) w 26 48 (some ad) n c 0 0 Tryz.underlying26;obtain⟨ti,z0,hti,ht0,ht1,ht2,ht3⟩:=R6 T9;have bn:Hid (Below w.heap.size w (w.alloc (.cells #[] 48))):=zH (zk);have HT:=zH (h.below_to bn.out hB);have HN:=zH hn;clear h hn;go_enter Tryz.func197,Tryz.ntmps197;go_wp2_with(at_builtin;go_loud (refine Zv rfl _ _ 26 rfl w.heap.size 48 ti z0 8 128 Tryz.underlying26 hti ht0 ht2 ht3 ht1 (by decide) _ 0 [] rfl (bJ w 48 8) (some ad) n c _ (Jw zs) (by rw[qgz,HN.out]) rfl HT.out (qgy _) (by unfold maxLen;omega) (by omega) (by simp) ?_);intro v6 w6 hown hgrow;have HX6:=zH (jx bn.out (bJ w 48 8) (by simp) hgrow);have HO6:Hid (w6.ownsRow w.heap.size 48 8 v6 n (Jw zs)):=(by grind [zH]);clear hown hgrow)
 go_ret;rcases Je HO6.out with⟨_,hn⟩|⟨g,ca,rfl,_,_⟩
 ·omega
 ·exact⟨g,ca,rfl,HO6.out,HX6.out⟩
theorem uT{zs:List (zl×qH)}{n:Nat}{ad:Addr}{c B:Nat}{w0 w:World}(hn:Hid (zs.length=n))(h:Hid (zw w0 B (some ad) (Jw zs)))(HX:Hid (Below w0.heap.size w0 w))(hB:Hid (B<=w0.heap.size))(h0:Hid (0<n))(hl:Hid (n<=1048576)):
  Calls Tryz.prog 197 #[.slice (some ad) n c] w (q12 zs n w):=
 q78 zs n ad c B w hn.out (h.out.below_to HX.out hB.out) (Xe hB.out HX.out.size) h0.out hl.out
