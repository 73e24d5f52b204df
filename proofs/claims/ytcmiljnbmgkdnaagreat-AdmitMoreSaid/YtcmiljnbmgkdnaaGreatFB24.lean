import Derived.Test.YtcmiljnbmgkdnaaGreatFB23
import Derived.Test.YtcmiljnbmgkdnaaGreatFB09
namespace Go.Proofs.YtcmiljnbmgkdnaaGreat
set_option maxRecDepth 100000
set_option linter.unusedVariables false
set_option linter.unusedSimpArgs false
open Go.ChangeShapes Go.WideShapes Go.ChangeAt Go.RowKit
theorem qgd(m:za)(op a b:Int)(h:zi)(w:World)(H:zm w w.heap.size h m)(hn:m.classes.length≤1000):
  Calls Tryz.prog 47 #[zp h m,zF op a b] w (vl (qp m op a b) w):=by
 by_cases h31:op=31
 ·subst h31;exact qfs m a b h w
 by_cases h32:op=32
 ·subst h32;exact qfq m a b h w H hn
 exact qfr m op a b h31 h32 h w
theorem q4h{m:za}{op a b:Int}{h:zi}{w0 w:World}{L:List Int}(HI:Hid (zm w0 w0.heap.size h m))(HX:Hid (Below w0.heap.size w0 w))(HN:Hid (m.classes.length≤1000))(HL:Hid (qp m op a b=L)):
  Calls Tryz.prog 47 #[zp h m,zF op a b] w (vl L w):=by
 have H:=qgd m op a b h w (HI.out.now HX.out) HN.out;rw[HL.out]at H;exact H
def Ja(m:za)(x:zh)(g:Int):Bool:= !(x.code.all fun i=> !zX (qp m i.1 i.2.1 i.2.2) g)
theorem q4d(m:za)(op a b:Int)(hn:m.classes.length≤1000):(qp m op a b).length≤1000:=by
 unfold qp;by_cases h1:op=31
 ·rw[Xb h1];exact(show 1≤1000 by decide)
 rw[Xa h1];by_cases h2:op=32
 ·rw[Xb h2];exact Xd (q4g _ _ _) (Xd (VE _ _ _) hn)
 ·rw[Xa h2];exact Xp _
set_option maxHeartbeats 3200000 in
theorem qjf(m:za)(x:zh)(f:Nat)(g:Int)(h:zi)(w:World)(H:zm w w.heap.size h m)(hg:m.methods[f]? =some x)(hn:m.classes.length≤1000)(ha:x.code.length≤1048576):
  Calls Tryz.prog 45 #[zp h m,.int .i64 f,.int .i64 g] w fun e w'=>e= .returned (.bool (Ja m x g))∧Below w.heap.size w w':=by
 have hk:f<m.methods.length:=(XM.mp hg).1;have hx:m.methods[f]=x:=(XM.mp hg).2;have hle:=H.methods.le;have hcap:=H.methods.cap;obtain⟨ad,hx',eA,hab,hin,hc⟩:=Qe H hk;rw[hx]at hin hc;obtain⟨A0,A1,A2,A3,A4,k0,k1,k2,k3,k4⟩:=h;dsimp only at eA hcap hle;subst eA;have HN:=zH hn;have HW:=zH ((zb w.heap.size w).alloc (zn _) (zg ⟨A0,A1,A2,some ad,A4,k0,k1,k2,k3,k4⟩ m));have HIM:=zH (H.now HW.out);have HBX:=zH (ql w ⟨A0,A1,A2,some ad,A4,k0,k1,k2,k3,k4⟩ m);have HZ:Hid (w.heap.size<(w.alloc (zg ⟨A0,A1,A2,some ad,A4,k0,k1,k2,k3,k4⟩ m)).heap.size):=zH (by simp);have HAB:Hid ((ad.add (f*8)).block<(w.alloc (zg ⟨A0,A1,A2,some ad,A4,k0,k1,k2,k3,k4⟩ m)).heap.size):=zH (by rw[zu];simp;omega);have HMC:=zH (hc.keep HW.out (by rw[zu];exact hab));have HIN:=zH (hin.now HW.out);have ccap:=hin.code.cap;have cle:=hin.code.le;have HCE:=zH (show Ja m x g= !(x.code.all fun i=> !zX (qp m i.1 i.2.1 i.2.2) g)from rfl);clear H hg hin hc hn hab hx;go_enter Tryz.func45,Tryz.ntmps45;go_upto_region 1 with fail
 generalize w.alloc (zg ⟨A0,A1,A2,some ad,A4,k0,k1,k2,k3,k4⟩ m)=w1 at*
 go_wp2_with fail
 go_loopw [7] (fun i wr=>∃k:Nat,k≤x.code.length∧i= .int .i64 k∧Hid (∀i ∈x.code.take k,(!zX (qp m i.1 i.2.1 i.2.2) g)=true)∧Hid (Below w1.heap.size w1 wr)) (fun i _=>x.code.length - (intOf i).toNat)
 case atStart=>exact⟨0,Xp _,rfl,zH (by simp),zH (zb _ _)⟩
 case round=>
  obtain⟨k,hkl,rfl,HNO,HX⟩:=hrel;obtain⟨q0,q1,q2,q3,q4,q5,q6⟩:=HBX.out.keep HX.out HZ.out;dsimp only at q0 q1 q2 q3 q4 q5 q6;have c4:=(HMC.out.keep HX.out HAB.out).c4;by_cases hlt:k<x.code.length
  ·obtain⟨ac,eC,hac,i0,i1,i2⟩:=HIN.out.code.row.at_ hlt;have HBA:=zH (fun q=>vK (f:=fun i:Int×Int×Int=> !zX (qp m i.1 i.2.1 i.2.2) g) hlt q);have HYE:=zH (fun q=>vH (f:=fun i:Int×Int×Int=> !zX (qp m i.1 i.2.1 i.2.2) g) hlt HNO.out q);generalize x.code[k]=ins at*
   obtain⟨op,a,b⟩:=ins;dsimp only at i0 i1 i2 HBA HYE;rw[eC]at c4;have HR:Hid (∀W,Below w1.heap.size w1 W→W.cell? (ac.add (k*3))=some (.int .i64 op)∧W.cell? (zf (ac.add (k*3)) 1)=some (.int .i64 a)∧W.cell? (zf (ac.add (k*3)) 2)=some (.int .i64 b)):=zH (fun W hW=>⟨(hW.cell (p:=ac.add (k*3)) (by rw[zu];exact hac)).trans i0,(hW.cell (p:=zf (ac.add (k*3)) 1) (by show(ac.add (k*3)).block<_;rw[zu];exact hac)).trans i1,(hW.cell (p:=zf (ac.add (k*3)) 2) (by show(ac.add (k*3)).block<_;rw[zu];exact hac)).trans i2⟩);have HC4:Hid (∀W,Below w1.heap.size w1 W→W.cell? ⟨(ad.add (f*8)).block,(ad.add (f*8)).off+4,none⟩=some (.slice (some ac) x.code.length hx'.k4)):=zH (fun W hW=>by have q:=(HMC.out.keep hW HAB.out).c4;rw[eC]at q;exact q);obtain⟨j0,j1,j2⟩:=HR.out _ HX.out;clear i0 i1 i2 eC;obtain⟨L,hL⟩:∃L,qp m op a b=L:=⟨_,rfl⟩
   have hLl:L.length≤9223372036854775807:=by have:=q4d m op a b HN.out;rw[hL]at this;omega
   have HL:=zH hL;rw[hL]at HBA HYE;clear hL;have HXd:=zH HX.out.drew;obtain⟨r,hr⟩:∃r,zX L g=r:=⟨_,rfl⟩
   have HIR:=zH hr;cases r
   ·have HR2:=zH (HYE.out (by rw[hr];rfl));clear hr;go_wp2_with fail
    go_region_held3 (fun w'=>w'.cell? ⟨w.heap.size,0,none⟩=some (.slice A0 m.classes.length k0)∧w'.cell? ⟨w.heap.size,1,none⟩=some (.slice A1 m.statics.length k1)∧w'.cell? ⟨w.heap.size,2,none⟩=some (.slice A2 m.ints.length k2)∧w'.cell? ⟨w.heap.size,3,none⟩=some (.slice (some ad) m.methods.length k3)∧w'.cell? ⟨w.heap.size,4,none⟩=some (.slice A4 m.entries.length k4)∧w'.cell? ⟨w.heap.size,5,none⟩=some (.int .i64 m.stack)∧w'.cell? ⟨w.heap.size,6,none⟩=some (.int .i64 m.heap)∧w'.cell? ⟨(ad.add (f*8)).block,(ad.add (f*8)).off+4,none⟩=some (.slice (some ac) x.code.length hx'.k4)∧w'.cell? (ac.add (k*3))=some (.int .i64 op)∧w'.cell? (zf (ac.add (k*3)) 1)=some (.int .i64 a)∧w'.cell? (zf (ac.add (k*3)) 2)=some (.int .i64 b)) (first|exact⟨q0,q1,q2,q3,q4,q5,q6,c4,j0,j1,j2⟩) (first|(go_at_call 47;(with_reducible refine(q4h HIM HXd HN HL).mono ?_);rintro e w2 ⟨v2,rfl,ho,hb⟩;have HX2:=zj HXd hb;obtain⟨A9,c9,rfl,hl9,_,_⟩:=kO ho;have HL9:=zH hl9;obtain⟨q0,q1,q2,q3,q4,q5,q6⟩:=HBX.out.keep HX2.out HZ.out;dsimp only at q0 q1 q2 q3 q4 q5 q6;have c4:=HC4.out _ HX2.out;obtain⟨j0,j1,j2⟩:=HR.out _ HX2.out;clear ho hb hl9)|(go_at_call 66;(with_reducible refine(q05 _ _ _ _ _ _ hLl HL9.out).mono ?_);rintro e w' ⟨he,rfl⟩;rw[HIR.out]at he;subst he))
    go_wp2_with fail
    go_roundw;case rel=>exact⟨k+1,by omega,by go_num,HR2,HX2⟩
    case measure=>simp[intOf];omega
   ·have HE:=zH (HCE.out.trans (by rw[HBA.out (by rw[hr];rfl)];rfl:_=true));clear hr;go_wp2_with fail
    go_region_held3 (fun w'=>w'.cell? ⟨w.heap.size,0,none⟩=some (.slice A0 m.classes.length k0)∧w'.cell? ⟨w.heap.size,1,none⟩=some (.slice A1 m.statics.length k1)∧w'.cell? ⟨w.heap.size,2,none⟩=some (.slice A2 m.ints.length k2)∧w'.cell? ⟨w.heap.size,3,none⟩=some (.slice (some ad) m.methods.length k3)∧w'.cell? ⟨w.heap.size,4,none⟩=some (.slice A4 m.entries.length k4)∧w'.cell? ⟨w.heap.size,5,none⟩=some (.int .i64 m.stack)∧w'.cell? ⟨w.heap.size,6,none⟩=some (.int .i64 m.heap)∧w'.cell? ⟨(ad.add (f*8)).block,(ad.add (f*8)).off+4,none⟩=some (.slice (some ac) x.code.length hx'.k4)∧w'.cell? (ac.add (k*3))=some (.int .i64 op)∧w'.cell? (zf (ac.add (k*3)) 1)=some (.int .i64 a)∧w'.cell? (zf (ac.add (k*3)) 2)=some (.int .i64 b)) (first|exact⟨q0,q1,q2,q3,q4,q5,q6,c4,j0,j1,j2⟩) (first|(go_at_call 47;(with_reducible refine(q4h HIM HXd HN HL).mono ?_);rintro e w2 ⟨v2,rfl,ho,hb⟩;have HX2:=zj HXd hb;obtain⟨A9,c9,rfl,hl9,_,_⟩:=kO ho;have HL9:=zH hl9;obtain⟨q0,q1,q2,q3,q4,q5,q6⟩:=HBX.out.keep HX2.out HZ.out;dsimp only at q0 q1 q2 q3 q4 q5 q6;have c4:=HC4.out _ HX2.out;obtain⟨j0,j1,j2⟩:=HR.out _ HX2.out;clear ho hb hl9)|(go_at_call 66;(with_reducible refine(q05 _ _ _ _ _ _ hLl HL9.out).mono ?_);rintro e w' ⟨he,rfl⟩;rw[HIR.out]at he;subst he))
    go_wp2_with fail
    go_ret;exact⟨by rw[HE.out];rfl,HW.out.trans (HX2.out.mono HW.out.size)⟩
  ·obtain rfl:k=x.code.length:=by omega
   have HE:=zH (HCE.out.trans (by rw[vL HNO.out (zn _)];rfl:_=false));go_wp2_with fail
   go_ret;exact⟨by rw[HE.out];rfl,HW.out.trans (HX.out.mono HW.out.size)⟩
theorem qbr:(Tryz.prog.info? 26).map (fun i=>(i.zero,i.size,i.bytes))=some (some (.slice none 0 0),1,24):=by kernel_rfl
theorem qb5{m:za}{x:zh}{f:Nat}{g:Int}{h:zi}{w0 w:World}{r:Bool}(HI:Hid (zm w0 w0.heap.size h m))(HX:Hid (Below w0.heap.size w0 w))(HG:Hid (m.methods[f]? =some x))(hn:m.classes.length≤1000)(ha:x.code.length≤1048576)(HR:Hid (Ja m x g=r)):
  Calls Tryz.prog 45 #[zp h m,.int .i64 f,.int .i64 g] w fun e w'=>e= .returned (.bool r)∧Below w.heap.size w w':=by
 have H:=qjf m x f g h w (HI.out.now HX.out) HG.out hn ha;rw[HR.out]at H;exact H
set_option maxHeartbeats 3200000 in
theorem qjd(m:za)(h:zi)(w:World)(H:zm w w.heap.size h m)(hn:m.classes.length≤1000)(hml:m.methods.length≤1000)(hc:∀x ∈m.methods,x.code.length≤1048576):
  Calls Tryz.prog 19 #[zp h m] w fun e w'=>∃v xs,e= .returned v∧w'.ownsRow w.heap.size 26 1 v m.methods.length xs∧Below w.heap.size w w':=by
 obtain⟨i0,hi,hz0,hz1,hz2⟩:=jU qbr;obtain⟨i1,hi1,hz01,hz11,hz21⟩:=jU vT;have HW:=zH ((zb w.heap.size w).alloc (zn _) (zg h m));have HI:=zH (H.now HW.out);have HBX:=zH (ql w h m);have HZ:Hid (w.heap.size<(w.alloc (zg h m)).heap.size):=zH (by simp);have HCO:=zH hc;clear H hc;go_enter Tryz.func19,Tryz.ntmps19;go_upto_region 1 with fail
 generalize w.alloc (zg h m)=w1 at*
 go_wp2_with fail
 go_loopw [3,4] (fun v i wr=>∃(k:Nat) (xs:List Value),k≤m.methods.length∧i= .int .i64 k∧Hid (wr.ownsRow w1.heap.size 26 1 v k xs)∧Hid (Below w1.heap.size w1 wr)) (fun _ i _=>m.methods.length - (intOf i).toNat)
 case atStart=>exact⟨0,[],by omega,rfl,zH (VN w1 _),zH ((zb _ _).alloc (zn _) _)⟩
 case round=>
  obtain⟨k,xs,hk,rfl,HO,HX⟩:=hrel;obtain⟨q0,q1,q2,q3,q4,q5,q6⟩:=HBX.out.keep HX.out HZ.out;have hsz:=HX.out.size;by_cases hlt:k<m.methods.length
  ·obtain⟨x,hx⟩:∃x,m.methods[k]? =some x:=⟨_,Xc hlt⟩
   have HG:=zH hx;have hxc:=HCO.out x (Xs hx);clear hx;go_wp2_with fail
   go_loopw [5,6] (fun l j wi=>∃(g:Nat) (ys:List Int),g≤m.methods.length∧j= .int .i64 g∧ys.length≤g∧Hid (wi.ownsRow wr.heap.size 3 1 l ys.length (ys.map (Value.int .i64)))∧Hid (Below wr.heap.size wr wi)) (fun _ j _=>m.methods.length - (intOf j).toNat)
   case atStart=>exact⟨0,[],by omega,rfl,zn _,zH (VN wr _),zH ((zb _ _).alloc (zn _) _)⟩
   case round=>
    clear q0 q1 q2 q3 q4 q5 q6;obtain⟨g,ys,hg,rfl,hyl,HOi,HXi⟩:=hrel;have HX2:=zH (HX.out.trans (HXi.out.mono hsz));obtain⟨q0,q1,q2,q3,q4,q5,q6⟩:=HBX.out.keep HX2.out HZ.out;by_cases hgl:g<m.methods.length
    ·obtain⟨r,hr⟩:∃r,Ja m x (g:Int)=r:=⟨_,rfl⟩
     have HR:=zH hr;clear hr;cases r
     ·go_wp2_with(go_at_call 45;(with_reducible refine(qb5 HI HX2 HG hn hxc HR).mono ?_);rintro e w4 ⟨rfl,hb⟩;have HO4:=zH (zT HOi.out hb (zL HOi.out));have HX4:=zj HXi hb;clear hb)
      go_roundw;case rel=>exact⟨g+1,ys,by omega,by go_num,by omega,HO4,HX4⟩
      case measure=>simp[intOf];omega
     ·go_wp2_with(first
       |(go_at_call 45;(with_reducible refine(qb5 HI HX2 HG hn hxc HR).mono ?_);rintro e w4 ⟨rfl,hb⟩;have HO4:=zH (zT HOi.out hb (zL HOi.out));have HX4:=zj HXi hb;have hsz4:=HX4.out.size;clear hb)
       |(at_builtin;refine Zj rfl _ _ 26 rfl _ 3 i1 (.int .i64 0) 1 8 Tryz.underlying26 hi1 hz01 hz11 hz21 rfl (by decide) _ ys.length (ys.map (Value.int .i64)) rfl (HO4.out.alloc _) (some ⟨w4.heap.size,0,none⟩) 1 1 _ [.int .i64 (g:Int)] rfl rfl (q07 w4 _ _) (JR rfl) (by unfold maxLen;omega) (by omega) (by simp;omega) ?_;intro v6 w6 hown hgrow;have HX6:=zH (jV (HX4.out.alloc hsz4 _) (HO4.out.alloc _) (by simp;omega) hgrow);have HO6:=zH hown;clear hown hgrow))
      go_roundw;case rel=>exact⟨g+1,ys++[(g:Int)],by omega,by go_num,by simp;omega,zH (by simpa using HO6.out),HX6⟩
      case measure=>simp[intOf];omega
    ·obtain⟨Al,cl,rfl,hll,hl1,hl2⟩:=kO HOi.out;have HOo:=zH (zT HO.out HXi.out (zL HO.out));have hsz2:=HX2.out.size;go_wp2_with(at_builtin;refine Zj rfl _ _ 56 rfl w1.heap.size 26 i0 (.slice none 0 0) 1 24 Tryz.underlying56 hi hz0 hz1 hz2 rfl (by decide) _ k xs rfl (HOo.out.alloc _) (some ⟨wr.heap.size,0,none⟩) 1 1 _ [.slice Al ys.length cl] rfl rfl (q07 wr _ _) (JR rfl) (by unfold maxLen;omega) (by omega) (by simp;omega) ?_;intro v6 w6 hown hgrow;have HX6:=zH (jV (HX2.out.alloc hsz2 _) (HOo.out.alloc _) (by simp;omega) hgrow);have HO6:=zH hown;clear hown hgrow)
     go_roundw;case rel=>exact⟨k+1,_,by omega,by go_num,HO6,HX6⟩
     case measure=>simp[intOf];omega
  ·go_wp2_with fail
   go_ret;have e:k=m.methods.length:=by omega
   exact⟨_,xs,rfl,ja (by rw[←e];exact HO.out) HW.out.size,HW.out.trans (HX.out.mono HW.out.size)⟩
def Yl(m:za)(x:zh)(n:Nat):List Int:=((List.range n).filter (fun g:Nat=>Ja m x (g:Int))).map (fun g:Nat=>(g:Int))
theorem qns(m:za)(x:zh)(n:Nat):(Yl m x n).length≤n:=by
 unfold Yl;rw[Xo];exact Xd (List.length_filter_le _ _) (by rw[XZ];exact zn _)
def jY(m:za):List (List Int):=m.methods.map fun x=>Yl m x m.methods.length
def q1v(w:World)(v:Value)(A:Option Addr)(c:Nat)(L:List Int):Prop:=ze zl 1 w w.heap.size A c L∧Je v A∧∀ad,A=some ad→ad.block<w.heap.size
def Yi(w:World)(v:Value)(xs:List Value)(EL:List (List Int)):Prop:=
 xs.length=EL.length∧∀(i:Nat) (L:List Int),EL[i]? =some L→∃A c,xs[i]? =some (Value.slice A L.length c)∧q1v w v A c L
theorem qh7{w w':World}{B C:Nat}{A:Option Addr}{c:Nat}{L:List Int}(h:ze zl 1 w B A c L)(hC:B≤C)(hk:∀ad,A=some ad→∀q:Addr,q.block=ad.block→w'.cell? q=w.cell? q):ze zl 1 w' C A c L:=
 ⟨h.le,h.cap,fun i x hi=>by
  obtain⟨ad,e,hb,hc⟩:=h.row i x hi;exact⟨ad,e,Xj hb hC,(hk ad e _ (zu _ _)).trans hc⟩⟩
theorem Yi.nil(w:World)(v:Value):Yi w v [] []:=⟨rfl,fun i L hi=>by simp at hi⟩
theorem Yi.below{w w':World}{v:Value}{xs:List Value}{EL:List (List Int)}(h:Yi w v xs EL)(hb:Below w.heap.size w w'):Yi w' v xs EL:=
 ⟨h.1,fun i L hi=>by
  obtain⟨A,c,e,hs,ha,hl⟩:=h.2 i L hi;exact⟨A,c,e,(hs.below_to zl.keeps hb (zn _)).keep' zl.keeps hb.size (fun _ _=>rfl),ha,fun ad e=>Xj (hl ad e) hb.size⟩⟩
theorem q1v.grown{w w3:World}{o:Obj}{v:Value}{L:List Int}{A:Option Addr}{c g9 n k:Nat}(h:q1v w v A c L)(hg:(w.alloc o).grownBy w3 v.ownBlock)(hor:v.ownBlock=some g9∨g9=(w.alloc o).heap.size):
  q1v w3 (.slice (some ⟨g9,0,none⟩) n k) A c L:=by
 obtain⟨hs,ha,hl⟩:=h;have hz:w.heap.size≤w3.heap.size:=Xd (by simp) hg.size;refine⟨qh7 hs hz fun ad e q hq=> ?_,q2o ha hl hor (by simp),fun ad e=>Xj (hl ad e) hz⟩;have hb:=hl ad e;have h1:w3.cell? q=(w.alloc o).cell? q:=XX (hg.block _ (by rw[hq];simp;omega) (fun e'=>ha _ e'.symm ad e hq));rw[h1];exact((zb w.heap.size w).alloc (zn _) o).cell (by rw[hq];exact hb)
theorem Yi.snoc{w w3:World}{o:Obj}{v:Value}{xs:List Value}{EL:List (List Int)}{L:List Int}{A:Option Addr}{c g9 n k:Nat}(h:Yi w v xs EL)(hs:q1v w v A c L)
  (hg:(w.alloc o).grownBy w3 v.ownBlock) (hor:v.ownBlock=some g9∨g9=(w.alloc o).heap.size):
  Yi w3 (.slice (some ⟨g9,0,none⟩) n k) (xs++[.slice A L.length c]) (EL++[L]):=by
 refine⟨by rw[Xe,Xe,h.1];rfl,fun i M hi=> ?_⟩;rcases Xk i EL.length with q|q
 ·rw[XN q]at hi;obtain⟨A',c',e,hs'⟩:=h.2 i M hi;exact⟨A',c',by rw[XN (by rw[h.1];exact q)];exact e,hs'.grown hg hor⟩
 ·rw[XP q]at hi;have hiz:i - EL.length=0:=by
   rcases Wo (i - EL.length)with z|z
   ·exact z
   ·rw[Xv (by simp;omega)]at hi;cases hi
  rw[hiz]at hi;simp at hi;subst hi;exact⟨A,c,by rw[XP (by rw[h.1];exact q),h.1,hiz];rfl,hs.grown hg hor⟩
def wat(W:List (List Bool))(i j:Nat):Bool:=(W[i]?.getD [])[j]?.getD false
structure JD(n:Nat)(W:List (List Bool)):Prop where
 len:W.length=n
 row:∀r ∈W,r.length=n
def Jf(W:List (List Bool))(i j:Nat)(b:Bool):List (List Bool):=W.set i ((W[i]?.getD []).set j b)
theorem JD.at_{n i:Nat}{W:List (List Bool)}(h:JD n W)(hi:i<n):(W[i]?.getD []).length=n:=by
 have hl:i<W.length:=by rw[h.len];exact hi
 rw[Xc hl,Wb];exact h.row _ (Xf hl)
theorem JD.set{n i j:Nat}{W:List (List Bool)}(h:JD n W)(hi:i<n)(b:Bool):JD n (Jf W i j b):=by
 refine⟨by unfold Jf;rw[XI];exact h.len,fun r hr=> ?_⟩;rcases X9 hr with q|q
 ·exact h.row r q
 ·rw[q,XI];exact h.at_ hi
theorem qug{n i j i' j':Nat}{W:List (List Bool)}(h:JD n W)(hi:i<n)(hj:j<n)(b:Bool):wat (Jf W i j b) i' j'=if i'=i∧j'=j then b else wat W i' j':=by
 have hl:i<W.length:=by rw[h.len];exact hi
 have hr:=h.at_ hi;unfold wat Jf;rw[Wc];by_cases hii:i=i'
 ·subst hii;rw[Xb rfl,Xb hl,Wb,Wc];by_cases hjj:j=j'
  ·subst hjj;rw[Xb rfl,Xb (by omega),Xb ⟨rfl,rfl⟩];rfl
  ·rw[Xa hjj,Xa (fun q=>hjj q.2.symm)]
 ·rw[Xa hii,Xa (fun q=>hii q.1.symm)]
structure q0g(EL:List (List Int))(n k:Nat)(W:List (List Bool)):Prop where
 sq:JD n W
 sound:∀i j,i<n→j<n→wat W i j=true→qy EL n i j
 full:∀i j,i<n→j<n→qy EL k i j→wat W i j=true
structure Jv(EL:List (List Int))(n k:Nat)(W0 W:List (List Bool))(i j:Nat):Prop where
 sq:JD n W
 sound:∀a b,a<n→b<n→wat W a b=true→qy EL n a b
 keep:∀a b,a<n→b<n→wat W0 a b=true→wat W a b=true
 done:∀a b,a<n→b<n→(a<i∨(a=i∧b<j))→wat W0 a k=true→wat W0 k b=true→wat W a b=true
theorem q0g.start{EL:List (List Int)}{n k:Nat}{W:List (List Bool)}(h:q0g EL n k W):Jv EL n k W W 0 0:=
 ⟨h.sq,h.sound,fun _ _ _ _ q=>q,fun a b _ _ q=>by omega⟩
theorem Jv.step{EL:List (List Int)}{n k i j:Nat}{W0 W:List (List Bool)}(h:Jv EL n k W0 W i j)(hk:k<n)(hi:i<n)(hj:j<n):
  Jv EL n k W0 (Jf W i j (wat W i j||(wat W i k&& wat W k j))) i (j+1):=by
 have hs:∀a b,wat (Jf W i j (wat W i j||(wat W i k&& wat W k j))) a b=if a=i∧b=j then(wat W i j||(wat W i k&& wat W k j))else wat W a b:=fun a b=>qug h.sq hi hj _
 have hm:∀a b,wat W a b=true→wat (Jf W i j (wat W i j||(wat W i k&& wat W k j))) a b=true:=fun a b q=>by
  rw[hs];by_cases e:a=i∧b=j
  ·rw[Xb e,←e.1,←e.2,q,Bool.true_or]
  ·rw[Xa e];exact q
 refine⟨h.sq.set hi _,fun a b ha hb q=> ?_,fun a b ha hb q=>hm a b (h.keep a b ha hb q),fun a b ha hb q h1 h2=> ?_⟩
 ·rw[hs]at q;by_cases e:a=i∧b=j
  ·rw[Xb e]at q;obtain⟨rfl,rfl⟩:=e;rw[Wf,Xr]at q;rcases q with q|⟨q1,q2⟩
   ·exact h.sound _ _ ha hb q
   ·exact(h.sound _ _ ha hk q1).join hk (h.sound _ _ hk hb q2)
  ·rw[Xa e]at q;exact h.sound a b ha hb q
 ·by_cases e:a=i∧b=j
  ·rw[hs,Xb e];obtain⟨rfl,rfl⟩:=e;rw[h.keep a k ha hk h1,h.keep k b hk hb h2];simp
  ·exact hm a b (h.done a b ha hb (by omega) h1 h2)
theorem Jv.next{EL:List (List Int)}{n k i j:Nat}{W0 W:List (List Bool)}(h:Jv EL n k W0 W i j)(hj:n≤j):Jv EL n k W0 W (i+1) 0:=
 ⟨h.sq,h.sound,h.keep,fun a b ha hb q=>h.done a b ha hb (by omega)⟩
theorem Jv.end_{EL:List (List Int)}{n k i j:Nat}{W0 W:List (List Bool)}(h0:q0g EL n k W0)(h:Jv EL n k W0 W i j)(hk:k<n)(hi:n≤i):q0g EL n (k+1) W:=
 ⟨h.sq,h.sound,fun a b ha hb q=>by
  rcases q.split with q|⟨q1,q2⟩
  ·exact h.keep a b ha hb (h0.full a b ha hb q)
  ·exact h.done a b ha hb (by omega) (h0.full a k ha hk q1) (h0.full k b hk hb q2)⟩
theorem q0g.first{EL:List (List Int)}{n:Nat}{W:List (List Bool)}(hs:JD n W)(h:∀i j,i<n→j<n→(wat W i j=true↔vb EL i j)):q0g EL n 0 W:=
 ⟨hs,fun i j hi hj q=> .one ((h i j hi hj).mp q),fun i j hi hj q=>by
  cases q with
  |one e=>exact(h i j hi hj).mpr e
  |snoc _ hp _=>omega⟩
def ju(EL:List (List Int)):Nat→Nat→Nat→Bool
 |0,i,j=>decide ((j:Int) ∈EL[i]?.getD [])
 |n+1,i,j=>ju EL n i j||(ju EL n i n&& ju EL n n j)
theorem YR{EL:List (List Int)}{n i j:Nat}:ju EL n i j=true↔qy EL n i j:=by
 induction n generalizing i j with
 |zero=>
  unfold ju;rw[Xt];constructor
  ·exact fun h=> .one h
  ·intro h;cases h with
   |one e=>exact e
   |snoc _ hp _=>omega
 |succ n ih=>
  unfold ju;rw[Wf,Xr,ih,ih,ih];constructor
  ·rintro(h|⟨h1,h2⟩)
   ·exact h.more (by omega)
   ·exact(h1.more (by omega)).join (by omega) (h2.more (by omega))
  ·exact qy.split
def jJ(m:za)(f:Int):List Int:=if 0≤f∧f<m.methods.length then Yl m (zw m f) m.methods.length else []
theorem q5u(m:za):(jY m).length=m.methods.length:=Xo _
theorem qdp{m:za}{k:Nat}(hk:k<m.methods.length):(jY m)[k]? =some (jJ m (k:Int)):=by
 unfold jY jJ zw;rw[XB,Xb ⟨by omega,by omega⟩,Xi,Xc hk];rfl
theorem qtt{m:za}{f:Int}(h:¬(0≤f∧f<m.methods.length)):jJ m f=[]:=by unfold jJ;rw[Xa h]
theorem qc7(m:za)(f:Int):(jJ m f).length≤m.methods.length:=by
 unfold jJ;split
 ·exact qns _ _ _
 ·simp
section
variable(EL:List (List Int))(n:Nat)(C:Nat→Int)
def Zd(f g:Nat):Bool:=decide (g=f)||(ju EL n f g&& ju EL n g f)
def kg(f:Nat):Nat→Int
 |0=>0
 |g+1=>if Zd EL n f g=true then kg f g+C g else kg f g
def Qg(out:Nat→Int)(g:Nat)(b t:Int):Int:=if ju EL n t.toNat g=false∧b<out t.toNat then out t.toNat else b
def ZP(out:Nat→Int)(g:Nat)(b:Int)(l:List Int):Int:=l.foldl (Qg EL n out g) b
def ki(out:Nat→Int)(f:Nat):Nat→Int
 |0=>0
 |g+1=>if Zd EL n f g=true then ZP EL n out g (ki out f g) (EL[g]?.getD [])else ki out f g
def q0f:Nat→Nat→Int
 |0,_=>0
 |k+1,f=>kg EL n C f n+ki EL n (q0f k) f n
def vO(f:Nat):Int:=q0f EL n C n f
def Qk(f:Nat):Nat:=((List.range n).filter (fun g=>decide (g=f)||ju EL n f g)).length
end
theorem qpo{l:List Nat}{p q:Nat→Bool}(h:∀x ∈l,p x=true→q x=true)(h2:∃x ∈l,q x=true∧p x=false):(l.filter p).length<(l.filter q).length:=by
 induction l with
 |nil=>obtain⟨x,hx,_⟩:=h2;cases hx
 |cons a l ih=>
  have hle:∀l:List Nat,(∀x ∈l,p x=true→q x=true)→(l.filter p).length≤(l.filter q).length:=by
   intro l
   induction l with
   |nil=>intro _;exact zn _
   |cons b l ih2=>
    intro hb;have h1:=ih2 (fun x hx=>hb x (XF _ hx));have h3:=hb b (XD ..);rw[List.filter_cons,List.filter_cons];cases hp:p b
    ·cases hq:q b<;>simp<;>omega
    ·rw[h3 hp];simp;omega
  have h0:∀x ∈l,p x=true→q x=true:=fun x hx=>h x (XF _ hx);obtain⟨x,hx,hq,hp⟩:=h2;rw[List.filter_cons,List.filter_cons];rcases XA.mp hx with e|e
  ·subst e;rw[hq,hp];have:=hle l h0;simp;omega
  ·have h1:=ih h0 ⟨x,e,hq,hp⟩;have h3:=h a (XD ..);cases hpa:p a
   ·cases hqa:q a<;>simp<;>omega
   ·rw[h3 hpa];simp;omega
section
variable{EL:List (List Int)}{n:Nat}{C:Nat→Int}
def kA(EL:List (List Int))(n:Nat):Prop:=∀(g:Nat),∀t ∈EL[g]?.getD [],0≤t∧t<(n:Int)
theorem YS{f g:Nat}:Zd EL n f g=true↔g=f∨(qy EL n f g∧qy EL n g f):=by
 unfold Zd;rw[Wf,Xt,Xr,YR,YR]
theorem qo9(f:Nat):Zd EL n f f=true:=YS.mpr (.inl rfl)
theorem q7e{i j:Nat}:ju EL n i j=false↔¬qy EL n i j:=by rw[←YR,Bool.not_eq_true]
theorem qes{f:Nat}(hf:f<n):0<Qk EL n f:=by
 unfold Qk;exact List.length_pos_of_mem (a:=f) (by rw[List.mem_filter,XR];exact⟨hf,by simp⟩)
theorem qf9(f:Nat):Qk EL n f≤n:=by
 unfold Qk;exact Xd (List.length_filter_le _ _) (by rw[XZ];exact zn _)
theorem qf8{f g t:Nat}(hg:g<n)(ht:t<n)(hp:Zd EL n f g=true)(he:vb EL g t)(hn:ju EL n t g=false):Qk EL n t<Qk EL n f:=by
 have hgt:qy EL n g t:= .one he;have hnt:=q7e.mp hn;have hft:qy EL n f t:=by
  rcases YS.mp hp with rfl|⟨h1,_⟩
  ·exact hgt
  ·exact h1.join hg hgt
 unfold Qk;refine qpo (fun x hx h=> ?_) ⟨g,XR.mpr hg,?_,?_⟩
 ·rw[Wf,Xt,YR]at h⊢
  rcases h with rfl|h
  ·exact .inr hft
  ·exact .inr (hft.join ht h)
 ·rw[Wf,Xt,YR];exact(YS.mp hp).imp id (fun q=>q.1)
 ·rw[Bool.or_eq_false_iff];refine⟨Xg (fun e=> ?_),hn⟩;subst e;exact hnt hgt
theorem qic{o o':Nat→Int}{g:Nat}{b:Int}{l:List Int}(h:∀t ∈l,ju EL n t.toNat g=false→o t.toNat=o' t.toNat):ZP EL n o g b l=ZP EL n o' g b l:=by
 induction l generalizing b with
 |nil=>rfl
 |cons t l ih=>
  show ZP EL n o g (Qg EL n o g b t) l=ZP EL n o' g (Qg EL n o' g b t) l;have e:Qg EL n o g b t=Qg EL n o' g b t:=by
   unfold Qg;by_cases q:ju EL n t.toNat g=false
   ·rw[h t (XD ..) q]
   ·rw[Xa (fun z=>q z.1),Xa (fun z=>q z.1)]
  rw[e];exact ih (fun t ht=>h t (XF _ ht))
theorem q58(hE:kA EL n){o o':Nat→Int}{f k:Nat}(hk:k≤n)(h:∀g t,g<n→t<n→Zd EL n f g=true→vb EL g t→ju EL n t g=false→o t=o' t):ki EL n o f k=ki EL n o' f k:=by
 induction k with
 |zero=>rfl
 |succ g ih=>
  unfold ki;rw[ih (by omega)];by_cases hp:Zd EL n f g=true
  ·rw[Xb hp,Xb hp];refine qic (fun t ht hw=> ?_);obtain⟨h0,h1⟩:=hE g t ht;exact h g t.toNat (by omega) (by omega) hp (by unfold vb;rw[show((t.toNat:Nat):Int)=t by omega];exact ht) hw
  ·rw[Xa hp,Xa hp]
theorem qgs(hE:kA EL n)(k:Nat):∀f,f<n→Qk EL n f≤k→q0f EL n C (k+1) f=q0f EL n C k f:=by
 induction k with
 |zero=>intro f hf h;have:=qes (EL:=EL) hf;omega
 |succ k ih=>
  intro f hf h;show kg EL n C f n+ki EL n (q0f EL n C (k+1)) f n=kg EL n C f n+ki EL n (q0f EL n C k) f n;rw[q58 hE (zn _) (fun g t hg ht hp he hw=>ih t ht (by have:=qf8 hg ht hp he hw;omega))]
theorem q5y(hE:kA EL n){f:Nat}(hf:f<n):vO EL n C f=kg EL n C f n+ki EL n (vO EL n C) f n:=by
 have h:=qgs (C:=C) hE n f hf (qf9 f);unfold vO;rw[←h];rfl
theorem qag(hE:kA EL n){o:Nat→Int}{f r:Nat}(hf:f<n)(hc:Qk EL n f≤r+1)(h:∀t,t<n→Qk EL n t≤r→o t=vO EL n C t):kg EL n C f n+ki EL n o f n=vO EL n C f:=by
 rw[q5y hE hf,q58 (o':=vO EL n C) hE (zn _) (fun g t hg ht hp he hw=>h t ht (by have:=qf8 hg ht hp he hw;omega))]
theorem qm9{o:Nat→Int}{g:Nat}{b:Int}{l:List Int}:b≤ZP EL n o g b l:=by
 induction l generalizing b with
 |nil=>exact XE _
 |cons t l ih=>
  show b≤ZP EL n o g (Qg EL n o g b t) l;refine Int.le_trans ?_ ih;unfold Qg;split
  ·rename_i q;exact Int.le_of_lt q.2
  ·exact XE _
theorem qm8{o:Nat→Int}{g:Nat}{b M:Int}{l:List Int}(hb:b≤M)(ho:∀t ∈l,o t.toNat≤M):ZP EL n o g b l≤M:=by
 induction l generalizing b with
 |nil=>exact hb
 |cons t l ih=>
  show ZP EL n o g (Qg EL n o g b t) l≤M;refine ih ?_ (fun u hu=>ho u (XF _ hu));unfold Qg;split
  ·exact ho t (XD ..)
  ·exact hb
theorem qc8{o:Nat→Int}{f k:Nat}:0≤ki EL n o f k:=by
 induction k with
 |zero=>exact XE _
 |succ g ih=>
  unfold ki;split
  ·exact Int.le_trans ih qm9
  ·exact ih
theorem qqt{o:Nat→Int}{f k:Nat}{M:Int}(hE:kA EL n)(hM:0≤M)(ho:∀t,t<n→o t≤M):ki EL n o f k≤M:=by
 induction k with
 |zero=>exact hM
 |succ g ih=>
  unfold ki;split
  ·exact qm8 ih (fun t ht=>ho _ (by have:=hE g t ht;omega))
  ·exact ih
theorem qbe{f k:Nat}(hC:∀g,0≤C g):0≤kg EL n C f k:=by
 induction k with
 |zero=>exact XE _
 |succ g ih=>
  unfold kg;have:=hC g;split<;>omega
theorem qoi{f g k:Nat}(hC:∀g,0≤C g)(hk:g<k)(hp:Zd EL n f g=true):C g≤kg EL n C f k:=by
 induction k with
 |zero=>omega
 |succ j ih=>
  unfold kg;have h1:=hC j;have h2:=qbe (EL:=EL) (n:=n) (f:=f) (k:=j) hC;rcases Xk g j with q|q
  ·have:=ih q;split<;>omega
  ·obtain rfl:g=j:=by omega
   rw[Xb hp];omega
theorem qoh{f k:Nat}{M:Int}(hC:∀g,C g≤M)(hM:0≤M):kg EL n C f k≤k*M:=by
 induction k with
 |zero=>simp[kg]
 |succ g ih=>
  unfold kg;have h1:=hC g;have h2:((g+1:Nat):Int)*M=g*M+M:=by rw[Int.natCast_add,Int.add_mul];simp
  rw[h2];split<;>omega
theorem qqq(hE:kA EL n)(hC:∀g,0≤C g){f:Nat}(hf:f<n):C f≤vO EL n C f:=by
 rw[q5y hE hf];have h1:=qoi (EL:=EL) (n:=n) (k:=n) hC hf (qo9 f);have h2:=qc8 (EL:=EL) (n:=n) (o:=vO EL n C) (f:=f) (k:=n);omega
theorem qqr(hE:kA EL n)(hC:∀g,0≤C g){f:Nat}(hf:f<n):0≤vO EL n C f:=Int.le_trans (hC f) (qqq hE hC hf)
end
theorem qdo(m:za):kA (jY m) m.methods.length:=fun g t ht=>by
 unfold jY at ht;rw[XB]at ht;cases hx:m.methods[g]? with
 |none=>rw[hx]at ht;cases ht
 |some x=>
  rw[hx]at ht;have ht:t ∈Yl m x m.methods.length:=ht;unfold Yl at ht;obtain⟨k,hk,rfl⟩:=XW.mp ht;rw[List.mem_filter,XR]at hk;omega
def Ve(d:Nat)(s:zo):Nat:=if d<s.stack.length then s.stack.length else d
def Zv(S:List zo):Nat:=S.foldl Ve 0
theorem qq3{S:List zo}{k:Nat}(hk:k<S.length):Zv (S.take (k+1))=Ve (Zv (S.take k)) S[k]:=by
 unfold Zv;rw[XH,Xc hk,Wn];rfl
theorem q74{S:List zo}{n:Nat}(h:∀s ∈S,s.stack.length≤n):Zv S≤n:=by
 have H:∀(S:List zo) (d:Nat),(∀s ∈S,s.stack.length≤n)→d≤n→S.foldl Ve d≤n:=by
  intro S
  induction S with
  |nil=>intro d _ hd;exact hd
  |cons s S ih=>
   intro d h hd;refine ih _ (fun t ht=>h t (XF _ ht)) ?_;unfold Ve;split
   ·exact h s (XD ..)
   ·exact hd
 exact H S 0 h (Xp _)
def jx(m:za)(maps:List (List zo))(f:Int):Int:=if 0≤f∧f<m.methods.length then 3+(zw m f).args.length+(zw m f).locals.length+Zv (maps[f.toNat]?.getD [])else 0
def Va(m:za)(f:Nat):Int:=if ju (jY m) m.methods.length f f=true then(zw m (f:Int)).depth else 1
def ZO(m:za)(maps:List (List zo))(f:Nat):Int:=Va m f*jx m maps (f:Int)
def Vf(m:za)(f:Nat):Bool:=ju (jY m) m.methods.length f f&& decide ((zw m (f:Int)).depth<1)
def jE(m:za):Bool:=(List.range m.methods.length).all fun f=> !Vf m f
def Qc(m:za)(maps:List (List zo)):List Int:=(List.range m.methods.length).map (vO (jY m) m.methods.length (ZO m maps))
theorem qaf(m:za)(maps:List (List zo)):(Qc m maps).length=m.methods.length:=by unfold Qc;rw[Xo,XZ]
theorem qqp{m:za}{maps:List (List zo)}{f:Nat}(h:f<m.methods.length):(Qc m maps)[f]? =some (vO (jY m) m.methods.length (ZO m maps) f):=by
 unfold Qc;rw[XB,Wp h];rfl
theorem q30{m:za}{maps:List (List zo)}{f:Int}:0≤jx m maps f:=by
 unfold jx;split<;>omega
theorem q5q{m:za}{maps:List (List zo)}{f:Int}(hm:zN m)(hz:kW 4000 maps):jx m maps f≤4011:=by
 unfold jx;split
 ·rename_i h;have hlt:f.toNat<m.methods.length:=by omega
  have hx:zw m f ∈m.methods:=by unfold zw;rw[Xc hlt];exact Xf hlt
  have h1:=(hm.method hx).all;have h2:Zv (maps[f.toNat]?.getD [])≤4000:=by
   cases hs:maps[f.toNat]? with
   |none=>exact Xp _
   |some S=>exact q74 (fun s hs'=>(hz S (Xs hs)).2 s hs')
  omega
 ·omega
theorem qao{m:za}(hm:zN m){f:Nat}(hf:f<m.methods.length):0≤Va m f∧Va m f≤8:=by
 have hx:zw m (f:Int) ∈m.methods:=by unfold zw;rw[Xi,Xc hf];exact Xf hf
 have h1:=(hm.method hx).fits.d0;have h2:=(hm.method hx).fits.d1;unfold Va;split<;>omega
theorem q6l{m:za}{maps:List (List zo)}(hm:zN m)(f:Nat):0≤ZO m maps f:=by
 unfold ZO;rcases Xk f m.methods.length with q|q
 ·exact Int.mul_nonneg (qao hm q).1 q30
 ·have:jx m maps (f:Int)=0:=by unfold jx;rw[Xa (by omega)]
  rw[this,Int.mul_zero];exact XE _
theorem qdt{m:za}{maps:List (List zo)}(hm:zN m)(hz:kW 4000 maps)(f:Nat):ZO m maps f≤32088:=by
 unfold ZO;rcases Xk f m.methods.length with q|q
 ·have h1:=qao hm q;have h2:=q5q (f:=(f:Int)) hm hz;have h3:0≤jx m maps (f:Int):=q30;have h4:Va m f*jx m maps (f:Int)≤8*4011:=Int.mul_le_mul h1.2 h2 h3 (by omega);omega
 ·have:jx m maps (f:Int)=0:=by unfold jx;rw[Xa (by omega)]
  rw[this,Int.mul_zero];omega
section
variable{EL:List (List Int)}{n:Nat}{P:List (List Nat)}{C:Nat→Int}
theorem Qx{i a:Nat}(hi:i<P.length)(h:a ∈P[i]):a ∈P.flatten:=List.mem_flatten.mpr ⟨_,Xf hi,h⟩
theorem qpl{i j a:Nat}(h:P.flatten.Nodup)(hi:i<P.length)(hj:j<P.length)(h1:a ∈P[i])(h2:a ∈P[j]):i=j:=by
 induction P generalizing i j with
 |nil=>simp at hi
 |cons c P ih=>
  rw[List.flatten_cons,List.nodup_append]at h;obtain⟨n1,n2,n3⟩:=h;cases i with
  |zero=>
   cases j with
   |zero=>rfl
   |succ j=>exact absurd rfl (n3 a h1 a (Qx (by simpa using hj) h2))
  |succ i=>
   cases j with
   |zero=>exact absurd rfl (n3 a h2 a (Qx (by simpa using hi) h1))
   |succ j=>rw[ih n2 (by simpa using hi) (by simpa using hj) h1 h2]
theorem vt.way(h:vt EL n P){i a b:Nat}(hi:i<P.length)(ha:a ∈P[i])(hb:b<n)(hw:qy EL n a b):∃j,∃hj:j<P.length,j≤i∧b ∈P[j]:=by
 induction hw with
 |one e=>exact h.ord i hi a ha _ hb e
 | @snoc p j _ hp e ih=>
  obtain⟨k,hk,hki,hm⟩:=ih hp;obtain⟨l,hl,hlk,hm2⟩:=h.ord k hk p hm _ hb e;exact⟨l,hl,by omega,hm2⟩
theorem vt.part(h:vt EL n P){i f g:Nat}(hi:i<P.length)(hf:f ∈P[i]):g ∈P[i]↔g<n∧Zd EL n f g=true:=by
 have hfn:=h.lt f (Qx hi hf);rw[YS];constructor
 ·intro hg;refine⟨h.lt g (Qx hi hg),?_⟩;rcases h.ring _ (Xf hi) f hf g hg with e|h1
  ·exact .inl e.symm
  ·rcases h.ring _ (Xf hi) g hg f hf with e|h2
   ·exact .inl e
   ·exact .inr ⟨h1,h2⟩
 ·rintro⟨hgn,rfl|⟨h1,h2⟩⟩
  ·exact hf
  ·obtain⟨j,hj,hji,hm⟩:=h.way hi hf hgn h1;obtain⟨k,hk,hkj,hm2⟩:=h.way hj hm hfn h2;have:=qpl h.nod hi hk hf hm2;have:j=i:=by omega
   subst this;exact hm
theorem quo{c d:List Nat}(hc:c.Pairwise (· < ·))(hd:d.Pairwise (· < ·))(h:∀x,x ∈c↔x ∈d):c=d:=by
 refine List.Perm.eq_of_pairwise (le:=(· < ·)) (fun a b _ _ h1 h2=>absurd h1 (by omega)) hc hd ?_;exact(List.perm_ext_iff_of_nodup (hc.imp (fun {a b} q=>by omega)) (hd.imp (fun {a b} q=>by omega))).mpr h
theorem vt.eq(h:vt EL n P){i f:Nat}(hi:i<P.length)(hf:f ∈P[i]):P[i]=(List.range n).filter (Zd EL n f):=by
 refine quo (h.srt _ (Xf hi)).2 (List.pairwise_lt_range.filter _) (fun x=> ?_);rw[h.part hi hf,List.mem_filter,XR]
def vp(C:Nat→Int)(c:List Nat):Int:=c.foldl (fun s g=>s+C g) 0
theorem qn8{c:List Nat}{k:Nat}(hk:k<c.length):vp C (c.take (k+1))=vp C (c.take k)+C c[k]:=by
 unfold vp;rw[XH,Xc hk,Wn];rfl
def beyP(EL:List (List Int))(n:Nat)(out:Nat→Int)(c:List Nat):Int:=c.foldl (fun b g=>ZP EL n out g b (EL[g]?.getD [])) 0
theorem qjz(f k:Nat):kg EL n C f k=vp C ((List.range k).filter (Zd EL n f)):=by
 induction k with
 |zero=>rfl
 |succ k ih=>
  rw[List.range_succ,List.filter_append,kg,ih];cases hp:Zd EL n f k
  ·simp[hp]
  ·simp[hp,vp,Wn]
theorem qm7(out:Nat→Int)(f k:Nat):ki EL n out f k=beyP EL n out ((List.range k).filter (Zd EL n f)):=by
 induction k with
 |zero=>rfl
 |succ k ih=>
  rw[List.range_succ,List.filter_append,ki,ih];cases hp:Zd EL n f k
  ·simp[hp]
  ·simp[hp,beyP,Wn]
theorem vt.bound(h:vt EL n P)(hE:kA EL n){i f:Nat}(hi:i<P.length)(hf:f ∈P[i]){out:Nat→Int}(ho:∀j,(hj:j<i)→∀t ∈P[j]'(by omega),out t=vO EL n C t):
  vO EL n C f=vp C P[i]+beyP EL n out P[i]:=by
 have hfn:=h.lt f (Qx hi hf);rw[q5y hE hfn,qjz,q58 (o':=out) hE (zn _) (fun g t hg ht hp he hw=> ?_),qm7,←h.eq hi hf];obtain⟨j,hj,hji,hm⟩:=h.ord i hi g ((h.part hi hf).mpr ⟨hg,hp⟩) t ht he;have hne:j≠i:=fun e=>by
  subst e;have h1:=(h.part hi hm).mp ((h.part hi hf).mpr ⟨hg,hp⟩);rcases YS.mp h1.2 with rfl|⟨q1,_⟩
  ·exact q7e.mp hw (.one he)
  ·exact q7e.mp hw q1
 exact(ho j (by omega) t hm).symm
theorem vt.stays(h:vt EL n P){i g t:Nat}(hi:i<P.length)(hg:g ∈P[i])(ht:t<n)(he:vb EL g t):ju EL n t g=true↔t ∈P[i]:=by
 rw[YR,h.part hi hg,YS];constructor
 ·intro q;exact⟨ht,.inr ⟨.one he,q⟩⟩
 ·rintro⟨_,rfl|⟨_,q⟩⟩
  ·exact .one he
  ·exact q
theorem vt.cyc(h:vt EL n P){i f:Nat}(hi:i<P.length)(hf:f ∈P[i]):(∃a ∈P[i],∃b ∈P[i],vb EL a b)↔ju EL n f f=true:=by
 have hfn:=h.lt f (Qx hi hf);rw[YR];constructor
 ·rintro⟨a,ha,b,hb,e⟩;have h1:f=a∨qy EL n f a:=h.ring _ (Xf hi) f hf a ha;have h2:b=f∨qy EL n b f:=h.ring _ (Xf hi) b hb f hf;have han:=h.lt a (Qx hi ha);have hbn:=h.lt b (Qx hi hb);have h3:qy EL n f b:=by
   rcases h1 with rfl|h1
   ·exact .one e
   ·exact .snoc h1 han e
  rcases h2 with rfl|h2
  ·exact h3
  ·exact h3.join hbn h2
 ·intro q;cases q with
  |one e=>exact⟨f,hf,f,hf,e⟩
  | @snoc p _ q hp e=>exact⟨p,(h.part hi hf).mpr ⟨hp,YS.mpr (.inr ⟨q,.one e⟩)⟩,f,hf,e⟩
end
def mx(b x:Int):Int:=if b<x then x else b
def QL(p:List Nat)(t:Int):Bool:= !zX (p.map (fun k:Nat=>(k:Int))) t
def vS(p:List Nat)(out:Nat→Int)(L:List Int):List Int:=(L.filter (QL p)).map fun t=>out t.toNat
def vh(EL:List (List Int))(p:List Nat)(out:Nat→Int)(c:List Nat):List Int:=c.flatMap fun g=>vS p out (EL[g]?.getD [])
theorem qfp{p:List Nat}{out:Nat→Int}{L:List Int}{s:Nat}(h:s<L.length):vS p out (L.take (s+1))=vS p out (L.take s)++(if QL p L[s]=true then [out L[s].toNat]else []):=by
 unfold vS;rw[XH,Xc h,List.filter_append,XY];cases q:QL p L[s]<;>simp[q]
theorem qg9{EL:List (List Int)}{p:List Nat}{out:Nat→Int}{c:List Nat}{k:Nat}(h:k<c.length):vh EL p out (c.take (k+1))=vh EL p out (c.take k)++vS p out (EL[c[k]]?.getD []):=by
 unfold vh;rw[XH,Xc h,Wd];simp
theorem q82{p:List Nat}{out:Nat→Int}{L:List Int}:(vS p out L).length≤L.length:=by
 unfold vS;rw[Xo];exact List.length_filter_le _ _
theorem qgz{EL:List (List Int)}{p:List Nat}{out:Nat→Int}{c:List Nat}{M:Nat}(h:∀g:Nat,(EL[g]?.getD []).length≤M):(vh EL p out c).length≤c.length*M:=by
 unfold vh
 induction c with
 |nil=>simp
 |cons g c ih=>
  rw[List.flatMap_cons,Xe,XJ,Nat.add_mul,Nat.one_mul];have h1:=q82 (p:=p) (out:=out) (L:=EL[g]?.getD []);have h2:=h g;omega
theorem qap{EL:List (List Int)}{p:List Nat}{out:Nat→Int}{c:List Nat}{M:Int}(h:∀t,0≤out t∧out t≤M):∀x ∈vh EL p out c,0≤x∧x≤M:=fun x hx=>by
 unfold vh vS at hx;obtain⟨g,_,hx⟩:=List.mem_flatMap.mp hx;obtain⟨t,_,rfl⟩:=XW.mp hx;exact h _
def kb(T:List Int)(i:Nat):Int:=(T.take i).foldl mx (T[0]?.getD 0)
theorem qsp{T:List Int}(h:0<T.length):kb T 1=T[0]:=by
 unfold kb;cases T with
 |nil=>simp at h
 |cons x T=>
  show mx x x=x;unfold mx;split<;>rfl
theorem qop{T:List Int}{i:Nat}(h:i<T.length):kb T (i+1)=mx (kb T i) T[i]:=by
 unfold kb;rw[XH,Xc h,Wn];rfl
theorem qd9{T:List Int}(h:0<T.length)(h0:∀x ∈T,0≤x):kb T T.length=T.foldl mx 0:=by
 unfold kb;rw[XU];cases T with
 |nil=>simp at h
 |cons x T=>
  have hx:=h0 x (XD ..);show T.foldl mx (mx x x)=T.foldl mx (mx 0 x);have e1:mx x x=x:=by unfold mx;split<;>rfl
  have e2:mx 0 x=x:=by unfold mx;split<;>omega
  rw[e1,e2]
theorem quv{p:List Nat}{t:Nat}:QL p (t:Int)=false↔t ∈p:=by
 unfold QL zX;simp;exact⟨fun⟨a,h,e⟩=>by rwa [show t=a by omega],fun h=>⟨t,h,rfl⟩⟩
section
variable{EL:List (List Int)}{n:Nat}{P:List (List Nat)}{C:Nat→Int}
theorem qqs{out:Nat→Int}{p:List Nat}{g:Nat}{L:List Int}{b:Int}(h:∀t ∈L,ju EL n t.toNat g=true↔QL p t=false):ZP EL n out g b L=(vS p out L).foldl mx b:=by
 induction L generalizing b with
 |nil=>rfl
 |cons t L ih=>
  have ih:=fun b=>ih (b:=b) (fun t ht=>h t (XF _ ht));have ht:=h t (XD ..);show ZP EL n out g (Qg EL n out g b t) L=_;rw[ih];unfold vS;rw[List.filter_cons];unfold Qg;cases q:QL p t
  ·rw[Xa (fun z=>by rw[ht.mpr q]at z;cases z.1)];rfl
  ·have hw:ju EL n t.toNat g=false:=by
    cases hw:ju EL n t.toNat g with
    |false=>rfl
    |true=>rw[ht.mp hw]at q;cases q
   rw[Xb rfl,List.map_cons,List.foldl_cons];unfold mx;by_cases z:b<out t.toNat
   ·rw[Xb ⟨hw,z⟩,Xb z]
   ·rw[Xa (fun y=>z y.2),Xa z]
theorem vt.takes(h:vt EL n P)(hE:kA EL n){i:Nat}(hi:i<P.length)(out:Nat→Int):beyP EL n out P[i]=(vh EL P[i] out P[i]).foldl mx 0:=by
 have H:∀(c:List Nat) (b:Int),(∀g ∈c,g ∈P[i])→c.foldl (fun b g=>ZP EL n out g b (EL[g]?.getD [])) b=(vh EL P[i] out c).foldl mx b:=by
  intro c
  induction c with
  |nil=>intro b _;rfl
  |cons g c ih=>
   intro b hc;rw[List.foldl_cons,ih _ (fun x hx=>hc x (XF _ hx))];unfold vh;rw[List.flatMap_cons,Wn,qqs (p:=P[i]) (fun t ht=> ?_)];obtain⟨t0,t1⟩:=hE g t ht;obtain⟨k,rfl⟩:=Xq t0;rw[quv];exact h.stays hi (hc g (XD ..)) (by omega) ht
 exact H _ 0 (fun g hg=>hg)
structure QP(EL:List (List Int))(n:Nat)(C:Nat→Int)(P:List (List Nat))(i:Nat)(O:List Int):Prop where
 len:O.length=n
 low:∀t,0≤oN O t
 top:∀t,oN O t≤400000*i
 old:∀j,(hj:j<P.length)→j<i→∀t ∈P[j],oN O t=vO EL n C t
theorem QP.start:QP EL n C P 0 (List.replicate n 0):=by
 have h:∀t,oN (List.replicate n 0) t=0:=fun t=>by
  unfold oN;rw[Wm];split<;>rfl
 exact⟨Wj ..,fun t=>by rw[h];exact XE _,fun t=>by rw[h];omega,fun j _ hj=>by omega⟩
def ZM(O:List Int)(c:List Nat)(v:Int):List Int:=c.foldl (fun O f=>O.set f v) O
theorem q9j(O:List Int)(c:List Nat)(v:Int):(ZM O c v).length=O.length:=by
 unfold ZM
 induction c generalizing O with
 |nil=>rfl
 |cons f c ih=>rw[List.foldl_cons,ih,XI]
theorem qhf{O:List Int}{c:List Nat}{v:Int}{k:Nat}(h:k<c.length):ZM O (c.take (k+1)) v=(ZM O (c.take k) v).set c[k] v:=by
 unfold ZM;rw[XH,Xc h,Wn];rfl
theorem q5f{O:List Int}{c:List Nat}{v:Int}(h:∀f ∈c,f<O.length)(t:Nat):oN (ZM O c v) t=if t ∈c then v else oN O t:=by
 induction c generalizing O with
 |nil=>simp[ZM]
 |cons f c ih=>
  show oN (ZM (O.set f v) c v) t=_;rw[ih (fun x hx=>by rw[XI];exact h x (XF _ hx)),Yd (h f (XD ..))];by_cases q:t ∈c
  ·rw[Xb q,Xb (XF _ q)]
  ·rw[Xa q];by_cases q2:t=f
   ·rw[Xb q2,Xb (by rw[q2];exact XD ..)]
   ·rw[Xa q2,Xa (fun z=>(XA.mp z).elim q2 q)]
theorem qim{C D:Nat→Int}{c:List Nat}(h:∀g ∈c,C g=D g):vp C c=vp D c:=by
 have H:∀(c:List Nat) (s:Int),(∀g ∈c,C g=D g)→c.foldl (fun s g=>s+C g) s=c.foldl (fun s g=>s+D g) s:=by
  intro c
  induction c with
  |nil=>intro s _;rfl
  |cons g c ih=>
   intro s hc;rw[List.foldl_cons,List.foldl_cons,hc g (XD ..)];exact ih _ (fun x hx=>hc x (XF _ hx))
 exact H c 0 h
theorem q4e{C:Nat→Int}{c:List Nat}{M:Int}(hM:0≤M)(h:∀g,0≤C g∧C g≤M):0≤vp C c∧vp C c≤c.length*M:=by
 have H:∀(c:List Nat) (s:Int),0≤s→0≤c.foldl (fun s g=>s+C g) s∧c.foldl (fun s g=>s+C g) s≤s+c.length*M:=by
  intro c
  induction c with
  |nil=>intro s hs;simp;exact hs
  |cons g c ih=>
   intro s hs;have h1:=h g;rw[List.foldl_cons];have:=ih (s+C g) (by omega);rw[XJ];rw[show(((c.length+1:Nat):Int))*M=c.length*M+M by rw[Int.natCast_add,Int.add_mul];simp];omega
 have:=H c 0 (XE _);unfold vp;omega
theorem qdj{T:List Int}{M:Int}(hM:0≤M)(h:∀x ∈T,0≤x∧x≤M):0≤T.foldl mx 0∧T.foldl mx 0≤M:=by
 have H:∀(l:List Int) (b:Int),(∀x ∈l,0≤x∧x≤M)→0≤b∧b≤M→0≤l.foldl mx b∧l.foldl mx b≤M:=by
  intro l
  induction l with
  |nil=>intro b _ hb;exact hb
  |cons x l ih=>
   intro b hl hb;refine ih _ (fun y hy=>hl y (XF _ hy)) ?_;have:=hl x (XD ..);unfold mx;split<;>omega
 exact H T 0 h ⟨XE _,hM⟩
theorem QP.step{i:Nat}{O:List Int}(h:QP EL n C P i O)(hR:vt EL n P)(hE:kA EL n)(hn:n≤12)(h0:∀g,0≤C g∧C g≤32088)(hi:i<P.length){v:Int}(hv:v=vp C P[i]+(vh EL P[i] (oN O) P[i]).foldl mx 0):QP EL n C P (i+1) (ZM O P[i] v):=by
 have hlt:∀f ∈P[i],f<O.length:=fun f hf=>by rw[h.len];exact hR.lt f (Qx hi hf)
 have hc:P[i].length≤12:=by
  have h1:P[i].length≤n:=q06 ((hR.srt _ (Xf hi)).2.imp (fun {a b} q=>by omega)) (fun f hf=>hR.lt f (Qx hi hf));omega
 have s1:=q4e (c:=P[i]) (M:=32088) (by omega) h0;have s2:=qdj (M:=400000*(i:Int)) (by omega) (qap (EL:=EL) (p:=P[i]) (c:=P[i]) (fun t=>⟨h.low t,h.top t⟩));have s3:(P[i].length:Int)*32088≤12*32088:=Int.mul_le_mul_of_nonneg_right (by omega) (by omega);refine⟨by rw[q9j];exact h.len,fun t=> ?_,fun t=> ?_,fun j hj hji t ht=> ?_⟩
 ·rw[q5f hlt];split
  ·omega
  ·exact h.low t
 ·rw[q5f hlt];have:=h.top t;split<;>omega
 ·rw[q5f hlt];by_cases q:t ∈P[i]
  ·rw[Xb q,hv,←hR.takes hE hi];exact(hR.bound hE hi q (fun k hk u hu=>h.old k (by omega) hk u hu)).symm
  ·rw[Xa q];refine h.old j hj ?_ t ht;rcases Xk j i with z|z
   ·exact z
   ·obtain rfl:j=i:=by omega
    exact absurd ht q
theorem QP.done{i:Nat}{O:List Int}(h:QP EL n C P i O)(hR:vt EL n P)(hi:P.length≤i):O=(List.range n).map (vO EL n C):=by
 refine We (by rw[h.len,Xo,XZ]) fun k h1 h2=> ?_;have hk:k<n:=by rw[←h.len];exact h1
 obtain⟨c,hc,hkc⟩:=List.mem_flatten.mp (hR.all k hk);obtain⟨j,hj,rfl⟩:=List.mem_iff_getElem.mp hc;have:=h.old j hj (by omega) k hkc;rw[ZA h1]at this;rw[this];simp
end
set_option maxHeartbeats 1600000 in
theorem qru(T:List Int)(A:Option Addr)(c:Nat)(w:World)(h:zq w w.heap.size A (T.map (Value.int .i64)))(h0:0<T.length)(hl:T.length≤1048576):
  Calls Tryz.prog 63 #[.slice A T.length c] w fun e w'=>e= .returned (.int .i64 (kb T T.length))∧w=w':=by
 have HL:=zH h;clear h;obtain⟨ad,rfl,hab,hc0⟩:=HL.out 0 (.int .i64 T[0]) (by rw[XB,Xc h0];rfl);have HM1:Hid (kb T 1=T[0]):=zH (qsp h0);obtain⟨t0,ht0⟩:∃z,T[0]=z:=⟨_,rfl⟩
 rw[ht0]at hc0 HM1;rw[show ad.add 0=ad by simp[Addr.add]]at hc0;obtain⟨n,hn⟩:∃n,T.length=n:=⟨_,rfl⟩
 have HN:=zH hn;rw[hn]at h0 hl⊢
 clear ht0 hn hab;have hn1:¬(n:Int)<1:=by omega
 go_enter Tryz.func63,Tryz.ntmps63;go_wp2_with fail
 go_loopw [3,4] (fun m i wr=>∃k:Nat,1≤k∧k≤n∧i= .int .i64 k∧m= .int .i64 (kb T k)∧wr=w) (fun _ i _=>n - (intOf i).toNat)
 case atStart=>exact⟨1,zn _,h0,rfl,by rw[HM1.out],by first|rfl|trivial⟩
 case round=>
  obtain⟨k,hk1,hk,rfl,rfl,hwr⟩:=hrel;have hwr:=hwr.symm;subst hwr;obtain⟨M,hM⟩:∃z,kb T k=z:=⟨_,rfl⟩
  rw[hM];by_cases hlt:k<n
  ·have hkT:k<T.length:=by rw[HN.out];exact hlt
   obtain⟨ad2,e2,hab,ck⟩:=HL.out k (.int .i64 T[k]) (by rw[XB,Xc hkT];rfl);injection e2 with e2;subst e2;have HS:Hid (kb T (k+1)=mx M T[k]):=zH (by rw[qop hkT,hM]);generalize T[k]=x at*
   clear hM hab hc0 hkT;by_cases hg:M<x
   ·have hgi:x>M:=hg;have hmx:max M x=x:=by omega
    have HY:Hid (kb T (k+1)=x):=zH (by rw[HS.out];unfold mx;rw[Xb hg]);go_wp2_with fail
    go_roundw;case rel=>exact⟨k+1,by omega,by omega,by go_num,by rw[HY.out],by first|rfl|trivial⟩
    case measure=>simp[intOf];omega
   ·have hgi:¬x>M:=hg;have hmx:max M x=M:=by omega
    have HY:Hid (kb T (k+1)=M):=zH (by rw[HS.out];unfold mx;rw[Xa hg]);go_wp2_with fail
    go_roundw;case rel=>exact⟨k+1,by omega,by omega,by go_num,by rw[HY.out],by first|rfl|trivial⟩
    case measure=>simp[intOf];omega
  ·obtain rfl:k=n:=by omega
   clear hc0;have HE:=zH hM;clear hM;go_wp2_with fail
   go_ret;exact⟨by rw[HE.out];first|rfl|done,rfl⟩
theorem qea{T:List Int}{A:Option Addr}{c n:Nat}{w:World}{r:Int}(HL:Hid (zq w w.heap.size A (T.map (Value.int .i64))))(HN:Hid (T.length=n))(h0:0<n)(hl:n≤1048576)(HR:Hid (kb T T.length=r)):
  Calls Tryz.prog 63 #[.slice A n c] w fun e w'=>e= .returned (.int .i64 r)∧w=w':=by
 obtain rfl:=HN.out;have H:=qru T A c w HL.out h0 hl;rw[HR.out]at H;exact H
theorem qsj(p:List Nat):zQ p=(p.map (fun k:Nat=>(k:Int))).map (Value.int .i64):=by unfold zQ;rw[List.map_map];rfl
theorem qa6{p:List Nat}{R:Option Addr}{c k:Nat}{x:Int}{b:Bool}{w:World}(HR:Hid (zq w w.heap.size R (zQ p)))(HP:Hid (p.Pairwise (· < ·)))(HK:Hid (p.length=k))(hk:k≤1000)(HB:Hid (QL p x=b)):
  Calls Tryz.prog 109 #[.slice R k c,.int .i64 x] w fun e w'=>∃i:Int,e= .returned (.tuple #[.int .i64 i,.bool (!b)])∧Below w.heap.size w w':=by
 have H:=q9b (p.map (fun k:Nat=>(k:Int))) x R c w (by rw[Xo,HK.out];omega) (by rw[←qsj];exact HR.out) (List.pairwise_map.mpr (HP.out.imp (fun {a b} q=>by omega)));rw[Xo,HK.out,show zX (p.map (fun k:Nat=>(k:Int))) x= !b by rw[←HB.out];unfold QL;simp]at H;exact H
set_option maxHeartbeats 6400000 in
theorem qi7(EL:List (List Int))(n gB:Nat)(O:List Int)(p:List Nat)(E R:Option Addr)(ce cr:Nat)(w:World)(hE:ze (zI zl 1) 1 w w.heap.size E ce EL)(hn:EL.length=n)(hn12:n≤12)(hED:kA EL n)(hEl:∀g:Nat,(EL[g]?.getD []).length≤12)
  (hR:zq w w.heap.size R (zQ p)) (hp:∀g ∈p,g<n) (hs:p.Pairwise (· < ·)) (hpl:p.length≤12) (hO:qg w gB O) (hOl:O.length=n) (hlow:∀t,0≤oN O t):
  Calls Tryz.prog 62 #[.slice E n ce,.slice R p.length cr,.slice (some ⟨gB,0,none⟩) n n] w fun e w'=>e= .returned (.int .i64 ((vh EL p (oN O) p).foldl mx 0))∧Below w.heap.size w w':=by
 obtain⟨i1,hi1,hz01,hz11,hz21⟩:=jU vT;have hel:=hE.le;have hec:=hE.cap;rw[hn]at hel;have HE:=zH hE;have HN:=zH hn;have HED:=zH hED;have HEL:=zH hEl;have HR:=zH hR;have HP:=zH hp;have HS:=zH hs;have HO:=zH hO;have HOL:=zH hOl;have HLOW:=zH hlow;obtain⟨np,hnp⟩:∃z,p.length=z:=⟨_,rfl⟩
 have HNP:=zH hnp;obtain⟨r,hr⟩:∃z,(vh EL p (oN O) p).foldl mx 0=z:=⟨_,rfl⟩
 have HRR:=zH hr;rw[hnp]at hpl⊢
 rw[hr];clear hE hn hED hEl hR hp hs hO hOl hlow hnp hr;have HX0:Hid (Below w.heap.size w w):=zH (zb _ _);go_enter Tryz.func62,Tryz.ntmps62;go_wp2_with fail
 go_loopw [7,16] (fun v i wr=>∃(k:Nat) (T:List Int),k≤np∧i= .int .i64 k∧Hid (vh EL p (oN O) (p.take k)=T)∧Hid (wr.ownsRow w.heap.size 3 1 v T.length (T.map (Value.int .i64)))∧Hid (Below w.heap.size w wr)) (fun _ i _=>np - (intOf i).toNat)
 case atStart=>exact⟨0,[],Xp _,rfl,zH rfl,zH (XQ _ _ _ _),HX0⟩
 case round=>
  clear HX0;obtain⟨k,T,hk,rfl,HT,HW,HX⟩:=hrel;have hTl:T.length≤k*12:=by
   rw[←HT.out];refine Xd (qgz HEL.out) ?_;rw[XO];exact Nat.mul_le_mul_right _ (Nat.min_le_left _ _)
  have hTl2:k*12≤144:=by omega
  by_cases hlt:k<np
  ·have hkp:k<p.length:=by rw[HNP.out];exact hlt
   obtain⟨g,hg⟩:∃g,p[k]=g:=⟨_,rfl⟩
   have hgn:=HP.out p[k] (Xf hkp);obtain⟨ar,rfl,har,r0⟩:=HR.out k (.int .i64 (g:Int)) (by unfold zQ;rw[XB,Xc hkp,hg];rfl);have r0:=(HX.out.cell (p:=ar.add k) (by rw[zu];exact har)).trans r0;rw[hg]at hgn;have hgE:g<EL.length:=by rw[HN.out];exact hgn
   obtain⟨adE,rfl,habE,A1,cL,e0,hsr⟩:=HE.out.row.at_ hgE;obtain⟨L,hL⟩:∃z,EL[g]=z:=⟨_,rfl⟩
   rw[hL]at e0 hsr;rw[Xz]at e0;have e0:=(HX.out.cell (p:=adE.add g) (by rw[zu];exact habE)).trans e0;have hge:EL[g]?.getD []=L:=by rw[Xc hgE,hL];rfl
   have HLE:=zH hge;have hLl:L.length≤12:=by rw[←hge];exact HEL.out g
   have HTK:Hid (vh EL p (oN O) (p.take (k+1))=T++vS p (oN O) L):=zH (by rw[qg9 hkp,HT.out,hg,hge]);have HLR:=zH hsr;have hrl:=hsr.le;have hrc:=hsr.cap;clear hg hge hL hsr hgE har habE hkp;go_wp2_with fail
   clear r0 e0;go_loopw [7,25] (fun v j wi=>∃(s:Nat) (T2:List Int),s≤L.length∧j= .int .i64 s∧Hid (T++vS p (oN O) (L.take s)=T2)∧Hid (wi.ownsRow w.heap.size 3 1 v T2.length (T2.map (Value.int .i64)))∧Hid (Below w.heap.size w wi)) (fun _ j _=>L.length - (intOf j).toNat)
   case atStart=>exact⟨0,T,Xp _,rfl,zH (by simp[vS]),HW,HX⟩
   case round=>
    clear HW HX;obtain⟨s,T2,hs,rfl,HT2,HW,HX⟩:=hrel;have hT2:T2.length≤156:=by
     rw[←HT2.out,Xe];have h1:=q82 (p:=p) (out:=oN O) (L:=L.take s);rw[XO]at h1;omega
    by_cases hsl:s<L.length
    ·obtain⟨adL,rfl,habL,l0⟩:=HLR.out.row.at_ hsl;have l0:w.cell? (adL.add s)=some (.int .i64 L[s]):=by have:=l0;rw[Xz]at this;exact this
     have l0:=(HX.out.cell (p:=adL.add s) (by rw[zu];exact habL)).trans l0;obtain⟨t0,t1⟩:=HED.out g L[s] (by rw[HLE.out];exact Xf hsl);have HTK2:Hid (T++vS p (oN O) (L.take (s+1))=T2++(if QL p L[s]=true then [oN O L[s].toNat]else [])):=zH (by rw[qfp hsl,←Xu,HT2.out]);generalize L[s]=tt at*
     obtain⟨t,rfl⟩:=Xq t0;have htn:t<n:=by omega
     have HTN:=zH htn;obtain⟨b,hb⟩:∃z,QL p (t:Int)=z:=⟨_,rfl⟩
     have HB:=zH hb;have HRN:Hid (zq _ _ (some ar) (zQ p)):=zH ((HR.out.below HX.out).more HX.out.size);have hsz:=HX.out.size;clear t0 t1 hb habL;cases b
     ·have HY:Hid (T++vS p (oN O) (L.take (s+1))=T2):=zH (by rw[HTK2.out,HB.out];simp);go_wp2_with(go_at_call 109;(with_reducible refine(qa6 HRN HS HNP (by omega) HB).mono ?_);rintro e w5 ⟨i5,rfl,hb⟩;have HX5:=zH (HX.out.trans (hb.mono hsz));have HW5:=zH (zT HW.out hb (zL HW.out));clear hb)
      go_roundw;case rel=>exact⟨s+1,T2,by omega,by go_num,HY,HW5,HX5⟩
      case measure=>simp[intOf];omega
     ·have HY:Hid (T++vS p (oN O) (L.take (s+1))=T2++[oN O t]):=zH (by rw[HTK2.out,HB.out];simp);obtain⟨ov,hov⟩:∃z,oN O t=z:=⟨_,rfl⟩
      have HOV:=zH hov;rw[hov]at HY;clear hov;go_wp2_with(first
       |(go_at_call 109;(with_reducible refine(qa6 HRN HS HNP (by omega) HB).mono ?_);rintro e w5 ⟨i5,rfl,hb⟩;have HX5:=zH (HX.out.trans (hb.mono hsz));have HW5:=zH (zT HW.out hb (zL HW.out));have hsz5:=HX5.out.size;have o1:=(HO.out.keep HX5.out).at_ (t:=t) (by rw[HOL.out];exact HTN.out);rw[HOV.out]at o1;clear hb)
       |(at_builtin;refine Zj rfl _ _ 26 rfl _ 3 i1 (.int .i64 0) 1 8 Tryz.underlying26 hi1 hz01 hz11 hz21 rfl (by decide) _ T2.length (T2.map (Value.int .i64)) rfl (HW5.out.alloc _) (some ⟨w5.heap.size,0,none⟩) 1 1 _ [.int .i64 ov] rfl rfl (q07 w5 _ _) (JR rfl) (by unfold maxLen;omega) (by omega) (by simp;omega) ?_;intro v6 w6 hown hgrow;have HW6:=zH hown;have HX6:=zH (jV (HX5.out.alloc hsz5 _) (HW5.out.alloc _) (by simp;omega) hgrow);clear hown hgrow))
      go_roundw;case rel=>exact⟨s+1,T2++[ov],by omega,by go_num,HY,zH (by simpa using HW6.out),HX6⟩
      case measure=>simp[intOf];omega
    ·have HY:Hid (vh EL p (oN O) (p.take (k+1))=T2):=zH (by rw[HTK.out,←HT2.out,XK (by omega)]);go_wp2_with fail
     go_roundw;case rel=>exact⟨k+1,T2,by omega,by go_num,HY,HW,HX⟩
     case measure=>simp[intOf];omega
  ·obtain⟨A7,c7,rfl,hll,hc1,hc2⟩:=kO HW.out;have HLL:=zH hll;have HTT:Hid (vh EL p (oN O) p=T):=zH (by rw[←HT.out,XK (by rw[HNP.out];omega)]);clear hll;by_cases h0:T.length=0
   ·have HZ:Hid (r=0):=zH (by rw[←HRR.out,HTT.out,List.length_eq_zero_iff.mp h0];rfl);have h0i:(T.length:Int)=0:=by omega
    go_wp2_with fail
    go_ret;exact⟨by rw[HZ.out];first|rfl|done,HX.out⟩
   ·have h0n:0<T.length:=by omega
    have h0i:((T.length:Int)==0)=false:=by simpa using h0
    have HMO:Hid (kb T T.length=r):=zH (by
     rw[qd9 h0n,←HRR.out,HTT.out];intro x hx;rw[←HTT.out]at hx;unfold vh vS at hx;obtain⟨g,_,hx⟩:=List.mem_flatMap.mp hx;obtain⟨t,_,rfl⟩:=XW.mp hx;exact HLOW.out _)
    have HTE:Hid (T.length=T.length):=zH rfl;go_wp2_with(go_at_call 63;(with_reducible refine(qea HLL HTE h0n (by omega) HMO).mono ?_);rintro e w8 ⟨rfl,rfl⟩)
    go_ret;exact⟨rfl,HX.out⟩
theorem qlr{EL:List (List Int)}{n np gB:Nat}{O:List Int}{p:List Nat}{E R:Option Addr}{ce cr:Nat}{w:World}{r:Int}(HE:Hid (ze (zI zl 1) 1 w w.heap.size E ce EL))(HN:Hid (EL.length=n))(hn12:n≤12)(HED:Hid (kA EL n∧∀g:Nat,(EL[g]?.getD []).length≤12))
  (HR:Hid (zq w w.heap.size R (zQ p))) (HP:Hid ((∀g ∈p,g<n)∧p.length≤12)) (HS:Hid (p.Pairwise (· < ·))) (HNP:Hid (p.length=np)) (HO:Hid (qg w gB O)) (HOL:Hid (O.length=n∧∀t,0≤oN O t)) (HRR:Hid ((vh EL p (oN O) p).foldl mx 0=r)):
  Calls Tryz.prog 62 #[.slice E n ce,.slice R np cr,.slice (some ⟨gB,0,none⟩) n n] w fun e w'=>e= .returned (.int .i64 r)∧Below w.heap.size w w':=by
 obtain rfl:=HNP.out;have H:=qi7 EL n gB O p E R ce cr w HE.out HN.out hn12 HED.out.1 HED.out.2 HR.out HP.out.1 HS.out HP.out.2 HO.out HOL.out.1 HOL.out.2;rw[HRR.out]at H;exact H
set_option maxHeartbeats 1600000 in
theorem qg6(m:za)(f:Int)(r:Bool)(hr:(decide (0≤f)&& decide (f<m.methods.length))=r)(h:zi)(w:World)(H:zm w w.heap.size h m):
  Calls Tryz.prog 150 #[zp h m,.int .i64 f] w fun e w'=>e= .returned (.bool r)∧Below w.heap.size w w':=by
 have HW:=zH ((zb w.heap.size w).alloc (zn _) (zg h m));have HBX:=zH (ql w h m);have hle:=H.methods.le;have hcap:=H.methods.cap;clear H;by_cases h0:0≤f
 ·by_cases h1:f<m.methods.length
  ·have e:r=true:=by rw[←hr,Xm h0,Xm h1];rfl
   subst e;clear hr;go_enter Tryz.func150,Tryz.ntmps150;go_upto_region 1 with fail
   generalize w.alloc (zg h m)=w1 at*
   obtain⟨q0,q1,q2,q3,q4,q5,q6⟩:=HBX.out;go_wp2_with fail
   go_ret;exact⟨rfl,HW.out⟩
  ·have e:r=false:=by rw[←hr,Xg h1,Bool.and_false]
   subst e;clear hr;go_enter Tryz.func150,Tryz.ntmps150;go_upto_region 1 with fail
   generalize w.alloc (zg h m)=w1 at*
   obtain⟨q0,q1,q2,q3,q4,q5,q6⟩:=HBX.out;go_wp2_with fail
   go_ret;exact⟨rfl,HW.out⟩
 ·have e:r=false:=by rw[←hr,Xg h0,Bool.false_and]
  subst e;clear hr;go_enter Tryz.func150,Tryz.ntmps150;go_upto_region 1 with fail
  generalize w.alloc (zg h m)=w1 at*
  obtain⟨q0,q1,q2,q3,q4,q5,q6⟩:=HBX.out;go_wp2_with fail
  go_ret;exact⟨rfl,HW.out⟩
theorem q28{m:za}{f:Int}{r:Bool}{h:zi}{w0 w:World}(HI:Hid (zm w0 w0.heap.size h m))(HX:Hid (Below w0.heap.size w0 w))(HR:Hid ((decide (0≤f)&& decide (f<m.methods.length))=r)):
  Calls Tryz.prog 150 #[zp h m,.int .i64 f] w fun e w'=>e= .returned (.bool r)∧Below w.heap.size w w':=by
 exact qg6 m f r HR.out h w (HI.out.now HX.out)
set_option maxHeartbeats 3200000 in
theorem qls(m:za)(a b:Int)(h:zi)(w:World)(H:zm w w.heap.size h m)(hn:m.classes.length≤1000):
  Calls Tryz.prog 189 #[zp h m,.int .i64 a,.int .i64 b] w (vl (vJ m b (Zr m.classes a)) w):=by
 obtain⟨L,hL⟩:∃L,Zr m.classes a=L:=⟨_,rfl⟩
 rw[hL];have hLl:L.length≤1000:=by rw[←hL];exact Xd (VE _ _ _) hn
 have HLB:=zH hL;clear hL;obtain⟨i0,hi,hz0,hz1,hz2⟩:=info_parts vT;have HW:=zH ((zb w.heap.size w).alloc (zn _) (zg h m));have HIM:=zH (H.now HW.out);have HBX:=zH (ql w h m);have HZ:Hid (w.heap.size<(w.alloc (zg h m)).heap.size):=zH (by simp);have hn1:=hn;have hkc:=H.classes.cap;clear H;go_enter Tryz.func189,Tryz.ntmps189;go_upto_region 1 with fail
 generalize w.alloc (zg h m)=w1 at*
 have HX0:Hid (Below w1.heap.size w1 w1):=zH (zb _ _);obtain⟨q0,q1,q2,q3,q4,q5,q6⟩:=HBX.out;go_wp2_with(go_at_call 202;(with_reducible refine(qqn HIM HX0 HLB hn1).mono ?_);rintro e w5 ⟨v5,rfl,ho,hb⟩;have HX:=zH hb;obtain⟨A5,c5,rfl,hl5,g1,g2⟩:=kO ho;have HL5:=zH hl5;clear hb ho hl5)
 go_loopw [7,16] (fun v i wr=>∃k:Nat,k≤L.length∧i= .int .i64 k∧Hid (wr.ownsRow w1.heap.size 3 1 v (vJ m b (L.take k)).length ((vJ m b (L.take k)).map (Value.int .i64)))∧Hid (Below w1.heap.size w1 wr)∧Hid (zq wr w5.heap.size A5 (L.map (Value.int .i64)))∧Hid (Je v A5)∧Hid (w5.heap.size≤wr.heap.size)) (fun _ i _=>L.length - (intOf i).toNat)
 case atStart=>exact⟨0,Xp _,rfl,zH (XQ _ _ _ _),HX,HL5,zH (fun g hg=>by simp[Value.ownBlock]at hg),zH (zn _)⟩
 case round=>
  clear HX HL5 q0 q1 q2 q3 q4 q5 q6;obtain⟨k,hk,rfl,HO,HX,HL5,HAP,HSZ⟩:=hrel;by_cases hlt:k<L.length
  ·obtain⟨ad,rfl,hab,hc0⟩:=HL5.out k (.int .i64 L[k]) (by rw[XB,Xc hlt];rfl);have hs:=q85 (m:=m) (b:=b) hlt;have hyl:(vJ m b (L.take k)).length≤1000:=Xd (q4g _ _ _) (by rw[XO];omega);obtain⟨q,hq⟩:∃q,L[k]=q:=⟨_,rfl⟩
   rw[hq]at hs hc0;have p:=hc0;have HLT5:Hid (∀ad',some ad=some ad'→ad'.block<w5.heap.size):=zH (fun ad' e=>by injection e with e;subst e;exact hab);obtain⟨o,ho⟩:∃o,jP m.classes q b=o:=⟨_,rfl⟩
   rw[ho]at hs;have HSV:=zH ho;have HS:=zH hs;clear hs ho hq hab hc0;generalize vJ m b (L.take k)=Y at*
   obtain⟨q0,q1,q2,q3,q4,q5,q6⟩:=HBX.out.keep HX.out HZ.out;have hszr:=HX.out.size;cases o with
   |none=>
    go_wp2_with(go_at_call 198;(with_reducible refine(q6j HIM HX HSV).mono ?_);rintro e w2 ⟨rfl,hb⟩;have HX2:=zH (HX.out.trans (hb.mono HX.out.size));have HL52:=zH ((HL5.out.below_to hb HSZ.out):zq w2 w5.heap.size (some ad) (L.map (Value.int .i64)));have HSZ2:Hid (w5.heap.size≤w2.heap.size):=zH (Xd HSZ.out hb.size);have HO2:=zH (zT HO.out hb (zL HO.out));clear hb)
    go_roundw;case rel=>exact⟨k+1,by omega,by go_num,zH (by rw[HS.out,Option.toList_none,List.append_nil];exact HO2.out),HX2,HL52,HAP,HSZ2⟩
    case measure=>simp[intOf];omega
   |some g=>
    go_wp2_with(first
     |(go_at_call 198;(with_reducible refine(q6j HIM HX HSV).mono ?_);rintro e w2 ⟨rfl,hb⟩;have HX2:=zH (HX.out.trans (hb.mono HX.out.size));have HL52:=zH ((HL5.out.below_to hb HSZ.out):zq w2 w5.heap.size (some ad) (L.map (Value.int .i64)));have HSZ2:Hid (w5.heap.size≤w2.heap.size):=zH (Xd HSZ.out hb.size);have HO2:=zH (zT HO.out hb (zL HO.out));have hsz2:=HX2.out.size;clear hb)
     |(at_builtin;refine wpList_append_lies _ rfl _ _ 26 rfl w1.heap.size 3 i0 (.int .i64 0) 1 8 Tryz.underlying26 hi hz0 hz1 hz2 rfl (by decide) _ _ _ rfl (HO2.out.alloc _) ⟨_,0,none⟩ 1 1 [.int .i64 g] rfl rfl (q1m _ _) (q1e _) (by decide) (by unfold maxLen;omega) (by omega) (by simp;omega) _ rfl ?_;intro g9 c9 w3 hown' hgrow hor hlt9;have hR:=YD HO2.out hsz2 HX2.out hown' hgrow;have HO3:=zH hR.1;have HX3:=zH hR.2;have HL53:=zH (q4y HL52.out HSZ2.out hgrow HAP.out);have HAP3:Hid (Je (.slice (some ⟨g9,0,none⟩) (Y.length+1) c9) (some ad)):=zH (q2o HAP.out HLT5.out hor (by have:=HSZ2.out;simp;omega));have HSZ3:Hid (w5.heap.size≤w3.heap.size):=zH (by have h1:=hgrow.size;have h2:=HSZ2.out;simp at h1;omega);clear hown' hgrow hR hor hlt9))
    go_roundw;case rel=>exact⟨k+1,by omega,by go_num,zH (by rw[HS.out];exact HO3.out),HX3,HL53,HAP3,HSZ3⟩
    case measure=>simp[intOf];omega
  ·obtain rfl:k=L.length:=by omega
   go_wp2_with fail
   go_ret;rw[XU]at HO;exact⟨_,rfl,ja HO.out HW.out.size,HW.out.trans (HX.out.mono HW.out.size)⟩
theorem qq7{m:za}{a b:Int}{L:List Int}{h:zi}{w0 w:World}(HI:Hid (zm w0 w0.heap.size h m))(HX:Hid (Below w0.heap.size w0 w))(hn:m.classes.length≤1000)(HL:Hid (vJ m b (Zr m.classes a)=L)):
  Calls Tryz.prog 189 #[zp h m,.int .i64 a,.int .i64 b] w (vl L w):=by
 have H:=qls m a b h w (HI.out.now HX.out) hn;rw[HL.out]at H;exact H
set_option maxHeartbeats 1600000 in
theorem qlv(m:za)(op a b:Int)(h:zi)(w:World)(H:zm w w.heap.size h m)(hn:m.classes.length≤1000):
  Calls Tryz.prog 151 #[zp h m,zF op a b] w (vl (qp m op a b) w):=by
 obtain⟨T,hT⟩:∃T,qp m op a b=T:=⟨_,rfl⟩
 rw[hT];have HT:=zH hT;clear hT;obtain⟨hq,hc,hb,hz⟩:=VK h m op a b w;have HW:=zH hb;have HC:=zH hc;have HZ:=zH hz;have HBX:=zH hq;have HIM:=zH (H.now hb);have hn1:=hn;clear hb hq hc hz H hn;go_enter Tryz.func151,Tryz.ntmps151;go_upto_region 1 with fail
 generalize(w.alloc (zg h m)).alloc (.cells #[.int .i64 op,.int .i64 a,.int .i64 b] 55)=w1 at*
 have HX0:Hid (Below w1.heap.size w1 w1):=zH (zb _ _);obtain⟨q0,q1,q2,q3,q4,q5,q6⟩:=HBX.out;have j0:=HC.out 0 _ rfl;have j1:=HC.out 1 _ rfl;have j2:=HC.out 2 _ rfl;by_cases h31:op=31
 ·subst h31;have e:[a]=T:=HT.out;subst e;go_wp2_with fail
  go_ret;have hb:Below w1.heap.size w1 (w1.alloc (.cells #[.int .i64 a] 3)):=(zb _ _).alloc (zn _) _;refine⟨_,rfl,⟨rfl,.inr ⟨w1.heap.size,1,#[.int .i64 a],rfl,HW.out.size,Xw _ _,zn _,by unfold maxLen;omega,rfl,rfl⟩⟩,HW.out.trans (hb.mono HW.out.size)⟩
 ·by_cases h32:op=32
  ·subst h32;have HL:Hid (vJ m b (Zr m.classes a)=T):=zH HT.out;go_wp2_with(go_at_call 189;(with_reducible refine(qq7 HIM HX0 hn1 HL).mono ?_);rintro e w5 ⟨v5,rfl,ho,hb⟩;have HO:=zH ho;have HX:=zH hb;clear hb ho)
   go_ret;exact⟨v5,rfl,ja HO.out HW.out.size,HW.out.trans (HX.out.mono HW.out.size)⟩
  ·have e:[]=T:=by have:=HT.out;unfold qp at this;rw[Xa h31,Xa h32]at this;exact this
   subst e;go_wp2_with fail
   go_ret;exact⟨_,rfl,XQ _ _ _ _,HW.out⟩
theorem qqh{m:za}{op a b:Int}{L:List Int}{h:zi}{w0 w:World}(HI:Hid (zm w0 w0.heap.size h m))(HX:Hid (Below w0.heap.size w0 w))(hn:m.classes.length≤1000)(HL:Hid (qp m op a b=L)):
  Calls Tryz.prog 151 #[zp h m,zF op a b] w (vl L w):=by
 have H:=qlv m op a b h w (HI.out.now HX.out) hn;rw[HL.out]at H;exact H
def Jc(m:za)(cs:List (Int×Int×Int))(g:Nat):Bool:=cs.any fun i=>zX (qp m i.1 i.2.1 i.2.2) (g:Int)
theorem qk5{m:za}{cs:List (Int×Int×Int)}{t:Nat}(h:t<cs.length)(g:Nat):Jc m (cs.take (t+1)) g=(Jc m (cs.take t) g||zX (qp m cs[t].1 cs[t].2.1 cs[t].2.2) (g:Int)):=by
 unfold Jc;rw[XH,Xc h,List.any_append];simp
theorem qhk(m:za)(x:zh)(g:Nat):Jc m x.code g=Ja m x (g:Int):=by
 unfold Jc Ja;rw[XV];simp
theorem qm3{m:za}{x:zh}{k:Nat}(hk:k<m.methods.length)(hx:m.methods[k]=x):jJ m (k:Int)=jl (fun g=>Jc m x.code g) m.methods.length:=by
 have e:zw m (k:Int)=x:=by unfold zw;rw[Xi,Xc hk,hx];rfl
 unfold jJ;rw[Xb ⟨by omega,by omega⟩,e,show Yl m x m.methods.length=jl (fun g=>Ja m x (g:Int)) m.methods.length from rfl];exact qba fun g _=>(qhk m x g).symm
theorem qsz{l:List Int}{s:Nat}(h:s<l.length)(g:Int):zX (l.take (s+1)) g=(zX (l.take s) g||decide (g=l[s])):=by
 unfold zX;rw[XV,Wf,Xt,Xt,Xt,XH,Xc h,Xn];simp only[Option.toList_some,XL]
theorem qk7{w w':World}{A:Option Addr}{xs:List Value}{b:Nat}(h:zq w w.heap.size A xs)(hg:w.grownBy w' (some b))(hf:∀ad,A=some ad→ad.block≠b):zq w' w'.heap.size A xs:=fun j u hu=>by
 obtain⟨ad,e,hb,hc⟩:=h j u hu;refine⟨ad,e,Xj hb hg.size,?_⟩;have hk:(ad.add j).block=ad.block:=by rw[zu]
 exact(XX (hg.block _ (by rw[hk];omega) (fun e'=>hf ad e (by injection e' with e';rw[hk]at e';exact e')))).trans hc
set_option maxHeartbeats 3200000 in
theorem qvd(m:za)(f:Int)(h:zi)(w:World)(H:zm w w.heap.size h m)(hn:m.classes.length≤1000)(hml:m.methods.length≤1048576)(hc:∀x ∈m.methods,x.code.length≤1048576):
  Calls Tryz.prog 103 #[zp h m,.int .i64 f] w (vl (jJ m f) w):=by
 by_cases hf:0≤f∧f<m.methods.length
 ·obtain⟨f0,f1⟩:=hf;obtain⟨k,rfl⟩:=Xq f0;have hk:k<m.methods.length:=by omega
  obtain⟨x,hx⟩:∃x,m.methods[k]=x:=⟨_,rfl⟩
  have hxc:=hc x (by rw[←hx];exact Xf hk);have HPK:=zH (qm3 hk hx);obtain⟨L,hL⟩:∃L,jJ m (k:Int)=L:=⟨_,rfl⟩
  rw[hL]at HPK⊢
  have hle:=H.methods.le;have hcap:=H.methods.cap;obtain⟨ad,hx',eA,hab,hin,hcc⟩:=Qe H hk;rw[hx]at hin hcc;obtain⟨A0,A1,A2,A3,A4,k0,k1,k2,k3,k4⟩:=h;obtain⟨A0x,A1x,A4x,A7x,k0x,k1x,k4x,k7x⟩:=hx';dsimp only at eA hcap hle;subst eA;have HN:=zH hn;have HW:=zH ((zb w.heap.size w).alloc (zn _) (zg ⟨A0,A1,A2,some ad,A4,k0,k1,k2,k3,k4⟩ m));have HIM:=zH (H.now HW.out);have HBX:=zH (ql w ⟨A0,A1,A2,some ad,A4,k0,k1,k2,k3,k4⟩ m);have HZ:Hid (w.heap.size<(w.alloc (zg ⟨A0,A1,A2,some ad,A4,k0,k1,k2,k3,k4⟩ m)).heap.size):=zH (by simp);have HAB:Hid ((ad.add (k*8)).block<(w.alloc (zg ⟨A0,A1,A2,some ad,A4,k0,k1,k2,k3,k4⟩ m)).heap.size):=zH (by rw[zu];simp;omega);have HMC:=zH (hcc.keep HW.out (by rw[zu];exact hab));have HIN:=zH (hin.now HW.out).code;have ccap:=hin.code.cap;have cle:=hin.code.le;have HR1:Hid ((decide (0≤(k:Int))&& decide ((k:Int)<m.methods.length))=true):=zH (by rw[Xm f0,Xm f1];rfl);dsimp only at ccap cle;have hmm:= @run_makeMap Tryz.prog;clear H hc hin hcc hn hab hx hL f0 f1;go_enter Tryz.func103,Tryz.ntmps103;go_upto_region 1 with fail
  generalize w.alloc (zg ⟨A0,A1,A2,some ad,A4,k0,k1,k2,k3,k4⟩ m)=w1 at*
  have HX0:Hid (Below w1.heap.size w1 w1):=zH (zb _ _);obtain⟨q0,q1,q2,q3,q4,q5,q6⟩:=HBX.out;dsimp only at q0 q1 q2 q3 q4 q5 q6;go_upto_region 4 with(go_at_call 150;(with_reducible refine(q28 HIM HX0 HR1).mono ?_);rintro e w2 ⟨rfl,hb⟩;have HX2:=zH hb;clear hb)
  clear q0 q1 q2 q3 q4 q5 q6;have HM0:=zH (ji.made w2 m.methods.length);have HX3:=zH (HX2.out.alloc HX2.out.size (.map #[] 0));have hB1:=HX2.out.size;generalize w2.alloc (.map #[] 0)=w3 at*
  generalize w2.heap.size=B at*
  obtain⟨q0,q1,q2,q3,q4,q5,q6⟩:=HBX.out.keep HX3.out HZ.out;dsimp only at q0 q1 q2 q3 q4 q5 q6;have c4:=(HMC.out.keep HX3.out HAB.out).c4;dsimp only at c4;go_wp2_with fail
  clear q0 q1 q2 q3 q4 q5 q6 c4;go_loopw [22] (fun i wr=>∃t:Nat,t≤x.code.length∧i= .int .i64 t∧Hid (ji wr B (fun g=>Jc m (x.code.take t) g) m.methods.length)∧Hid (Below w1.heap.size w1 wr)) (fun i _=>x.code.length - (intOf i).toNat)
  case atStart=>exact⟨0,Xp _,rfl,HM0,HX3⟩
  case round=>
   clear HM0 HX3 HX2;obtain⟨t,ht,rfl,HM,HX⟩:=hrel;by_cases hlt:t<x.code.length
   ·obtain⟨ac,rfl,hac,i0,i1,i2⟩:=HIN.out.row.at_ hlt;have HT1:=zH (qk5 (m:=m) hlt);generalize x.code[t]=ins at*
    obtain⟨op,a,b⟩:=ins;dsimp only at i0 i1 i2 HT1;obtain⟨T,hT⟩:∃T,qp m op a b=T:=⟨_,rfl⟩
    have hTl:T.length≤1000:=by have:=q4d m op a b HN.out;rw[hT]at this;exact this
    have HTT:=zH hT;rw[hT]at HT1;clear hT;obtain⟨P,hP⟩:∃P,(fun g=>Jc m (x.code.take t) g)=P:=⟨_,rfl⟩
    rw[hP]at HM;have HT2:Hid (∀g,Jc m (x.code.take (t+1)) g=(P g||zX T (g:Int))):=zH (fun g=>by rw[HT1.out g,←hP]);clear HT1 hP;have hszr:=HX.out.size;have j0:=(HX.out.cell (p:=ac.add (t*3)) (by rw[zu];exact hac)).trans i0;have j1:=(HX.out.cell (p:=zf (ac.add (t*3)) 1) (by show(ac.add (t*3)).block<_;rw[zu];exact hac)).trans i1;have j2:=(HX.out.cell (p:=zf (ac.add (t*3)) 2) (by show(ac.add (t*3)).block<_;rw[zu];exact hac)).trans i2;clear i0 i1 i2 hac;go_upto_region 7 with fail
    clear j0 j1 j2;have HIB:=zH (qr wr [.int .i64 op,.int .i64 a,.int .i64 b] 55);have HA:Hid (Below wr.heap.size wr (wr.alloc (.cells ([.int .i64 op,.int .i64 a,.int .i64 b]:List Value).toArray 55))):=zH ((zb _ _).alloc (zn _) _);have HM4:=zH (HM.out.below HA.out HM.out.lt);have HX4:=zH (HX.out.trans (HA.out.mono hszr));generalize wr.alloc (.cells ([.int .i64 op,.int .i64 a,.int .i64 b]:List Value).toArray 55)=w4 at*
    have i0:=HIB.out 0 _ rfl;have i1:=HIB.out 1 _ rfl;have i2:=HIB.out 2 _ rfl;obtain⟨q0,q1,q2,q3,q4,q5,q6⟩:=HBX.out.keep HX4.out HZ.out;dsimp only at q0 q1 q2 q3 q4 q5 q6;have hB4:=HM4.out.lt;go_wp2_with(go_at_call 151;(with_reducible refine(qqh HIM HX4 HN.out HTT).mono ?_);rintro e w5 ⟨v5,rfl,ho,hb⟩;have HM5:=zH (HM4.out.below hb HM4.out.lt);have HX5:=zH (HX4.out.trans (hb.mono HX4.out.size));obtain⟨A5,c5,rfl,hl5,g1,g2⟩:=kO ho;have HL5:=zH hl5;have HF5:Hid (∀ad,A5=some ad→ad.block≠B):=zH (fun ad e=>by have:=(ho.lt ad.block (by rw[e];rfl)).1;omega);clear hb ho hl5)
    clear q0 q1 q2 q3 q4 q5 q6 i0 i1 i2;go_loopw [30] (fun j wi=>∃s:Nat,s≤T.length∧j= .int .i64 s∧Hid (ji wi B (fun g=>P g||zX (T.take s) (g:Int)) m.methods.length)∧Hid (Below w1.heap.size w1 wi)∧Hid (zq wi wi.heap.size A5 (T.map (Value.int .i64)))) (fun j _=>T.length - (intOf j).toNat)
    case atStart=>exact⟨0,Xp _,rfl,zH (HM5.out.cong (fun g _=>by rw[List.take_zero,qv3,Bool.or_false])),HX5,HL5⟩
    case round=>
     clear HM5 HX5 HL5;obtain⟨s,hs,rfl,HMi,HXi,HLi⟩:=hrel;by_cases hst:s<T.length
     ·obtain⟨a5,rfl,hab5,p5⟩:=HLi.out s (.int .i64 T[s]) (by rw[XB,Xc hst];rfl);have HSN:=zH (fun g:Nat=>qsz hst (g:Int));generalize T[s]=q at*
      obtain⟨q0,q1,q2,q3,q4,q5,q6⟩:=HBX.out.keep HXi.out HZ.out;dsimp only at q0 q1 q2 q3 q4 q5 q6;clear hab5;by_cases hm:0≤q∧q<m.methods.length
      ·obtain⟨m0,m1⟩:=hm;obtain⟨g,rfl⟩:=Xq m0;have HR:Hid ((decide (0≤(g:Int))&& decide ((g:Int)<m.methods.length))=true):=zH (by rw[Xm m0,Xm m1];rfl);have hgm:g<m.methods.length:=by omega
       clear m0 m1;go_wp2_with(first
        |(go_at_call 150;(with_reducible refine(q28 HIM HXi HR).mono ?_);rintro e w6 ⟨rfl,hb⟩;have HM6:=zH (HMi.out.below hb HMi.out.lt);have HX6:=zH (HXi.out.trans (hb.mono HXi.out.size));have HL6:=zH ((HLi.out.below hb).more hb.size);clear hb)
        |(at_mapUpdate;refine q81 _ rfl _ _ _ 203 (.inl rfl) Tryz.underlying203 B m.methods.length g _ rfl HM6.out hgm hml rfl rfl ?_;intro w7 hm7 hg7;have HM7:=zH hm7;have HX7:=zH (HX6.out.grown hg7 HX6.out.size (fun j hj=>by injection hj with hj;omega));have HL7:=zH (qk7 HL6.out hg7 HF5.out);clear hm7 hg7))
       go_roundw;case rel=>exact⟨s+1,by omega,by go_num,zH (HM7.out.cong (fun k _=>by rw[HSN.out k,←Bool.or_assoc];congr 1;exact X8.mpr (by omega))),HX7,HL7⟩
       case measure=>simp[intOf];omega
      ·have HR:Hid ((decide (0≤q)&& decide (q<m.methods.length))=false):=zH (by rw[Wa];simpa using hm);have HNQ:Hid (∀k:Nat,k<m.methods.length→decide ((k:Int)=q)=false):=zH (fun k hk=>Xg (by omega));clear hm;go_wp2_with(go_at_call 150;(with_reducible refine(q28 HIM HXi HR).mono ?_);rintro e w6 ⟨rfl,hb⟩;have HM6:=zH (HMi.out.below hb HMi.out.lt);have HX6:=zH (HXi.out.trans (hb.mono HXi.out.size));have HL6:=zH ((HLi.out.below hb).more hb.size);clear hb)
       go_roundw;case rel=>exact⟨s+1,by omega,by go_num,zH (HM6.out.cong (fun k hk=>by rw[HSN.out k,HNQ.out k hk,Bool.or_false])),HX6,HL6⟩
       case measure=>simp[intOf];omega
     ·obtain rfl:s=T.length:=by omega
      go_wp2_with fail
      go_roundw;case rel=>exact⟨t+1,by omega,by go_num,zH (HMi.out.cong (fun k _=>by rw[HT2.out k,XU])),HXi⟩
      case measure=>simp[intOf];omega
   ·obtain rfl:t=x.code.length:=by omega
    have HL:Hid (jl (fun g=>Jc m (x.code.take x.code.length) g) m.methods.length=L):=zH (by rw[XU];exact HPK.out.symm);go_wp2_with(go_at_call 152;(with_reducible refine(qnv HM hml HL).mono ?_);rintro e w9 ⟨v9,rfl,ho,hb⟩;have HO9:=zH ho;have HX9:=zH (HX.out.trans (hb.mono HX.out.size));have hz9:=HX.out.size;clear ho hb)
    go_ret;exact⟨v9,rfl,ja HO9.out (Xd HW.out.size hz9),HW.out.trans (HX9.out.mono HW.out.size)⟩
 ·have HR1:Hid ((decide (0≤f)&& decide (f<m.methods.length))=false):=zH (by rw[Wa];simpa using hf);rw[qtt hf];have HW:=zH ((zb w.heap.size w).alloc (zn _) (zg h m));have HIM:=zH (H.now HW.out);have HBX:=zH (ql w h m);clear H hf hc;go_enter Tryz.func103,Tryz.ntmps103;go_upto_region 1 with fail
  generalize w.alloc (zg h m)=w1 at*
  have HX0:Hid (Below w1.heap.size w1 w1):=zH (zb _ _);obtain⟨q0,q1,q2,q3,q4,q5,q6⟩:=HBX.out;go_wp2_with(go_at_call 150;(with_reducible refine(q28 HIM HX0 HR1).mono ?_);rintro e w2 ⟨rfl,hb⟩;have HX2:=zH hb;clear hb)
  go_ret;exact⟨_,rfl,XQ _ _ _ _,HW.out.trans (HX2.out.mono HW.out.size)⟩
theorem qve(m:za)(f:Int)(h:zi)(w:World)(H:zm w w.heap.size h m)(hn:m.classes.length≤1000)(hml:m.methods.length≤1048576)(hc:∀x ∈m.methods,x.code.length≤1048576):
  Calls Tryz.prog 103 #[zp h m,.int .i64 f] w fun e w'=>∃A c,e= .returned (.slice A (jJ m f).length c)∧ze zl 1 w' w'.heap.size A c (jJ m f)∧(∀ad,A=some ad→w.heap.size≤ad.block)∧Below w.heap.size w w':=
 (qvd m f h w H hn hml hc).mono fun e w' hO=>by
  obtain⟨v,rfl,ho,hb⟩:=hO;obtain⟨A,c,rfl,hl,h1,h2⟩:=kO ho;exact⟨A,c,rfl,⟨h1,h2,fun i x hi=>by
   obtain⟨ad,e,hb,hc⟩:=hl i (.int .i64 x) (by rw[XB,hi];rfl);exact⟨ad,e,hb,by show w'.cell? (ad.add (i*1))=_;rw[Xz];exact hc⟩⟩,fun ad e=>(ho.lt ad.block (by rw[e];rfl)).1,hb⟩
theorem qer{m:za}{f:Int}{h:zi}{w0 w:World}{L:List Int}(HI:Hid (zm w0 w0.heap.size h m))(HX:Hid (Below w0.heap.size w0 w))(HC:Hid (m.classes.length≤1000∧m.methods.length≤1048576∧∀x ∈m.methods,x.code.length≤1048576))(HR:Hid (jJ m f=L)):
  Calls Tryz.prog 103 #[zp h m,.int .i64 f] w fun e w'=>∃A c,e= .returned (.slice A L.length c)∧ze zl 1 w' w'.heap.size A c L∧(∀ad,A=some ad→w.heap.size≤ad.block)∧Below w.heap.size w w':=by
 have H:=qve m f h w (HI.out.now HX.out) HC.out.1 HC.out.2.1 HC.out.2.2;rw[HR.out]at H;exact H
set_option maxHeartbeats 3200000 in
theorem qln(m:za)(h:zi)(w:World)(H:zm w w.heap.size h m)(hn:m.classes.length≤1000)(hml:m.methods.length≤1000)(hc:∀x ∈m.methods,x.code.length≤1048576):
  Calls Tryz.prog 58 #[zp h m] w fun e w'=>∃g,e= .returned (.slice (some ⟨g,0,none⟩) m.methods.length m.methods.length)∧w.heap.size≤g∧g<w'.heap.size∧ze (zI zl 1) 1 w' w'.heap.size (some ⟨g,0,none⟩) m.methods.length (jY m)∧Below w.heap.size w w':=by
 obtain⟨i0,hi,hz0,hz1,hz2⟩:=jU qbr;have HW:=zH ((zb w.heap.size w).alloc (zn _) (zg h m));have HI:=zH (H.now HW.out);have HBX:=zH (ql w h m);have HZ:Hid (w.heap.size<(w.alloc (zg h m)).heap.size):=zH (by simp);have HCO:Hid (m.classes.length≤1000∧m.methods.length≤1048576∧∀x ∈m.methods,x.code.length≤1048576):=zH ⟨hn,by omega,hc⟩;obtain⟨n,hnn⟩:∃n,m.methods.length=n:=⟨_,rfl⟩
 have HN:=zH hnn;have HEL:Hid (∀k,k<n→(jY m)[k]? =some (jJ m (k:Int))):=zH (fun k hk=>qdp (by omega));have HEN:Hid ((jY m).length=n):=zH (by rw[q5u];exact hnn);rw[hnn]at hml⊢
 have hcap:=H.methods.cap;have hle:=H.methods.le;rw[hnn]at hle;clear H hc hnn;go_enter Tryz.func58,Tryz.ntmps58;go_upto_region 1 with fail
 generalize w.alloc (zg h m)=w1 at*
 obtain⟨q0,q1,q2,q3,q4,q5,q6⟩:=HBX.out;rw[HN.out]at q3;go_wp2_with(at_make;(refine wpList_make_full _ rfl _ _ 56 rfl w1.heap.size 26 i0 (.slice none 0 0) 1 Tryz.underlying56 hi hz0 hz1 .i64 .i64 _ _ n rfl rfl rfl rfl (by rw[hz2];omega) (by unfold maxLen;omega) (zn _) ?_);intro w2 hown hgrow;have HO2:=zH hown;have HB2:=zH ((zb w1.heap.size w1).grown hgrow (zn _) (fun k hk=>by cases hk));clear hown hgrow)
 have HG2:Hid (Zi w2 w1.heap.size (jY m) n 0 (List.replicate n (.slice none 0 0))):=zH (by
  have h1:=q2j HO2.out;rw[q1f (v:= .slice none 0 0) rfl]at h1;exact⟨h1,Wj ..,fun i L hi _=>by omega,fun i _ hi=>by rw[Wm,Xb hi]⟩)
 clear q0 q1 q2 q3 q4 q5 q6 HO2;try simp only[HN.out]
 go_loopw [11] (fun i wr=>∃(k:Nat) (vs:List Value),k≤n∧i= .int .i64 k∧Hid (Zi wr w1.heap.size (jY m) n k vs)∧Hid (Below w1.heap.size w1 wr)) (fun i _=>n - (intOf i).toNat)
 case atStart=>exact⟨0,_,by omega,rfl,HG2,HB2⟩
 case round=>
  clear HG2 HB2;obtain⟨k,vs,hk,rfl,HG,HX⟩:=hrel;by_cases hlt:k<n
  ·obtain⟨q0,q1,q2,q3,q4,q5,q6⟩:=HBX.out.keep HX.out HZ.out;obtain⟨L,hL⟩:∃L,jJ m (k:Int)=L:=⟨_,rfl⟩
   have HL:=zH hL;have HLE:Hid ((jY m)[k]? =some L):=zH (by rw[HEL.out k hlt,hL]);clear hL;go_wp2_with(go_at_call 103;(with_reducible refine(qer HI HX HCO HL).mono ?_);rintro e w5 ⟨A5,c5,rfl,hs,hA,hb⟩;have HS5:=zH hs;have HA5:Hid (∀ad,A5=some ad→w1.heap.size<ad.block):=zH (fun ad e=>by have h1:=hA ad e;have h2:=zd.lt HG.out.blk;omega);have HG5:=zH (HG.out.keep hb);have HX5:=zH (HX.out.trans (hb.mono HX.out.size));obtain⟨v0,c0⟩:=HG5.out.cell hlt;have f0:=zd.free HG5.out.blk k;clear hs hA hb)
   go_roundw;case rel=>exact⟨k+1,_,by omega,by go_num,zH (HG5.out.put hlt HLE.out HS5.out HA5.out),zH (HX5.out.setCell (p:=⟨w1.heap.size,k,none⟩) (zn _) _)⟩
   case measure=>simp[intOf];omega
  ·go_wp2_with fail
   go_ret;exact⟨w1.heap.size,rfl,Xh HZ.out,zd.lt HG.out.blk,HG.out.slc HEN.out (by omega) (by omega),HW.out.trans (HX.out.mono (Xh HZ.out))⟩
theorem qq2{m:za}{h:zi}{n:Nat}{EL:List (List Int)}{w0 w:World}(HI:Hid (zm w0 w0.heap.size h m))(HX:Hid (Below w0.heap.size w0 w))(HC:Hid (m.classes.length≤1000∧m.methods.length≤1000∧∀x ∈m.methods,x.code.length≤1048576))(HN:Hid (m.methods.length=n))(HE:Hid (jY m=EL)):
  Calls Tryz.prog 58 #[zp h m] w fun e w'=>∃g,e= .returned (.slice (some ⟨g,0,none⟩) n n)∧w.heap.size≤g∧g<w'.heap.size∧ze (zI zl 1) 1 w' w'.heap.size (some ⟨g,0,none⟩) n EL∧Below w.heap.size w w':=by
 have H:=qln m h w (HI.out.now HX.out) HC.out.1 HC.out.2.1 HC.out.2.2;rw[HN.out,HE.out]at H;exact H
def QF(maps:List (List zo))(f:Int):Int:=if 0≤f then(Zv (maps[f.toNat]?.getD []):Nat)else 0
set_option maxHeartbeats 3200000 in
theorem qn0(maps:List (List zo))(f:Int)(A:Option Addr)(c:Nat)(w:World)(hM:ze (zI jK 2) 1 w w.heap.size A c maps)(hz:kW 4000 maps):
  Calls Tryz.prog 155 #[.slice A maps.length c,.int .i64 f] w fun e w'=>e= .returned (.int .i64 (QF maps f))∧Below w.heap.size w w':=by
 have HM0:=zH hM;have HMZ:=zH hz;have hl1:=hM.le;have hl2:=hM.cap;clear hM hz;by_cases h0:0≤f;rotate_left
 ·have hlt:f<0:=by omega
  have e:QF maps f=0:=by unfold QF;rw[Xa h0]
  rw[e];clear e;go_enter Tryz.func155,Tryz.ntmps155;go_wp2_with fail
  go_ret;exact⟨rfl,zb _ _⟩
 by_cases h1:f<maps.length;rotate_left
 ·have hlt:¬f<0:=by omega
  have hge:f ≥ (maps.length:Int):=by omega
  have e:QF maps f=0:=by unfold QF;rw[Xb h0,Xv (by omega)];rfl
  rw[e];clear e;go_enter Tryz.func155,Tryz.ntmps155;go_wp2_with fail
  go_ret;exact⟨rfl,zb _ _⟩
 obtain⟨k,rfl⟩:=Xq h0;have hk:k<maps.length:=by omega
 have i0:¬(k:Int)<0:=by omega
 have i1:¬(k:Int) ≥ (maps.length:Int):=by omega
 obtain⟨S,hS⟩:∃S,maps[k]=S:=⟨_,rfl⟩
 have HR:Hid (QF maps (k:Int)=(Zv S:Nat)):=zH (by unfold QF;rw[Xb h0,Xi,Xc hk,hS];rfl);obtain⟨adM,rfl,habM,A1,cS,r0,hsr⟩:=HM0.out.row.at_ hk;rw[hS]at r0 hsr;rw[Xz]at r0;have hSZ:∀s ∈S,s.stack.length≤4000:=by rw[←hS];exact(HMZ.out maps[k] (Xf hk)).2
 have HSZ:=zH hSZ;have HSR:=zH hsr;have hs1:=hsr.le;have hs2:=hsr.cap;obtain⟨r,hr⟩:∃r,QF maps (k:Int)=r:=⟨_,rfl⟩
 rw[hr]at HR⊢
 clear h0 h1 hS hsr hSZ hr;have HX0:Hid (Below w.heap.size w w):=zH (zb _ _);go_enter Tryz.func155,Tryz.ntmps155;go_wp2_with fail
 clear r0;go_loopw [5,21] (fun d i wr=>∃pc:Nat,pc≤S.length∧i= .int .i64 pc∧d= .int .i64 (Zv (S.take pc):Nat)∧Hid (Below w.heap.size w wr)) (fun _ i _=>S.length - (intOf i).toNat)
 case atStart=>exact⟨0,Xp _,rfl,rfl,HX0⟩
 case round=>
  clear HX0;obtain⟨pc,hpc,rfl,rfl,HX⟩:=hrel;obtain⟨D,hD⟩:∃D,Zv (S.take pc)=D:=⟨_,rfl⟩
  have hDl:D≤4000:=by rw[←hD];exact q74 (fun s hs=>HSZ.out s (List.mem_of_mem_take hs))
  have HD:=zH hD;by_cases hp:pc<S.length
  ·obtain⟨adS,rfl,habS,s0,At,ct,s1,hst⟩:=HSR.out.row.at_ hp;have HT:Hid (Zv (S.take (pc+1))=Ve D S[pc]):=zH (by rw[qq3 hp,hD]);have hsl:=HSZ.out S[pc] (Xf hp);generalize S[pc]=s at*
   have ht1:=hst.le;have ht2:=hst.cap;have s0:=(HX.out.cell (p:=adS.add (pc*2)) (by rw[zu];exact habS)).trans s0;have s1:=(HX.out.cell (p:=zf (adS.add (pc*2)) 1) (by show(adS.add (pc*2)).block<_;rw[zu];exact habS)).trans s1;have hsz:=HX.out.size;rw[hD];clear hD hst habS;by_cases hg:D<s.stack.length
   ·have hgi:(s.stack.length:Int)>(D:Int):=by omega
    have hmx:max (D:Int) (s.stack.length:Int)=(s.stack.length:Int):=by omega
    have HY:Hid (Zv (S.take (pc+1))=s.stack.length):=zH (by rw[HT.out];unfold Ve;rw[Xb hg]);go_wp2_with fail
    go_roundw;case rel=>exact⟨pc+1,by omega,by go_num,by rw[HY.out],zH (HX.out.alloc hsz _)⟩
    case measure=>simp[intOf];omega
   ·have hgi:¬(s.stack.length:Int)>(D:Int):=by omega
    have hmx:max (D:Int) (s.stack.length:Int)=(D:Int):=by omega
    have HY:Hid (Zv (S.take (pc+1))=D):=zH (by rw[HT.out];unfold Ve;rw[Xa hg]);go_wp2_with fail
    go_roundw;case rel=>exact⟨pc+1,by omega,by go_num,by rw[HY.out],zH (HX.out.alloc hsz _)⟩
    case measure=>simp[intOf];omega
  ·have hpi:¬(pc:Int)<(S.length:Int):=by omega
   have HF:Hid (r=(D:Int)):=zH (by rw[HR.out,←HD.out,XK (by omega)]);rw[hD];clear hD;go_wp2_with fail
   go_ret;exact⟨by rw[HF.out];first|rfl|done,HX.out⟩
theorem qrk{maps:List (List zo)}{f r:Int}{A:Option Addr}{c n:Nat}{w:World}(HS:Hid (ze (zI jK 2) 1 w w.heap.size A c maps))(HZ:Hid (kW 4000 maps))(HN:Hid (maps.length=n))(HR:Hid (QF maps f=r)):
  Calls Tryz.prog 155 #[.slice A n c,.int .i64 f] w fun e w'=>e= .returned (.int .i64 r)∧Below w.heap.size w w':=by
 obtain rfl:=HN.out;have H:=qn0 maps f A c w HS.out HZ.out;rw[HR.out]at H;exact H
set_option maxHeartbeats 3200000 in
theorem qlo(m:za)(maps:List (List zo))(f:Int)(A:Option Addr)(c:Nat)(h:zi)(w:World)(H:zm w w.heap.size h m)(hm:zN m)(hM:ze (zI jK 2) 1 w w.heap.size A c maps)(hz:kW 4000 maps):
  Calls Tryz.prog 106 #[zp h m,.slice A maps.length c,.int .i64 f] w fun e w'=>e= .returned (.int .i64 (jx m maps f))∧Below w.heap.size w w':=by
 have HW:=zH (vr (w:=w) (h:=h) (m:=m));have HBX:=zH (ql w h m);have HI:=zH (H.now HW.out);have HM0:=zH (kF RowAt.keeps hM HW.out);have HMZ:=zH hz;have HM:=zH hm;have hle:=H.methods.le;have hcap:=H.methods.cap;have hl1:=hM.le;have hl2:=hM.cap;clear H hM hz hm;by_cases h0:0≤f;rotate_left
 ·have hlt:f<0:=by omega
  have e:jx m maps f=0:=by unfold jx;rw[Xa (by omega)]
  rw[e];clear e;go_enter Tryz.func106,Tryz.ntmps106;go_upto_region 1 with fail
  generalize w.alloc (zg h m)=w1 at*
  obtain⟨q0,q1,q2,q3,q4,q5,q6⟩:=HBX.out;go_wp2_with fail
  go_ret;exact⟨rfl,HW.out⟩
 by_cases h1:f<m.methods.length;rotate_left
 ·have hlt:¬f<0:=by omega
  have hge:f ≥ (m.methods.length:Int):=by omega
  have e:jx m maps f=0:=by unfold jx;rw[Xa (by omega)]
  rw[e];clear e;go_enter Tryz.func106,Tryz.ntmps106;go_upto_region 1 with fail
  generalize w.alloc (zg h m)=w1 at*
  obtain⟨q0,q1,q2,q3,q4,q5,q6⟩:=HBX.out;go_wp2_with fail
  go_ret;exact⟨rfl,HW.out⟩
 obtain⟨k,rfl⟩:=Xq h0;have hkm:k<m.methods.length:=by omega
 have i0:¬(k:Int)<0:=by omega
 have i1:¬(k:Int) ≥ (m.methods.length:Int):=by omega
 obtain⟨ad,hx,eA,hab,hin,hc⟩:=Qe HI.out hkm;obtain⟨D,hD⟩:∃D,Zv (maps[k]?.getD [])=D:=⟨_,rfl⟩
 have hfr:jx m maps (k:Int)=3+m.methods[k].args.length+m.methods[k].locals.length+D:=by
  unfold jx zw;rw[Xb ⟨h0,h1⟩,Xi,hD,Xc hkm];rfl
 have HDE:Hid (QF maps (k:Int)=(D:Int)):=zH (by unfold QF;rw[Xb h0,Xi,hD]);have hall:=(HM.out.method (Xf hkm)).all;have hd0:D≤4000:=by
  rw[←hD];cases hs:maps[k]? with
  |none=>exact Xp _
  |some S=>exact q74 (fun s hs'=>(HMZ.out S (Xs hs)).2 s hs')
 have ha1:=hin.args.cap;have ha2:=hin.args.le;have ha3:=hin.locals.cap;have ha4:=hin.locals.le;obtain⟨A0,Ab,A2,A3,A4,k0,k1,k2,k3,k4⟩:=h;obtain⟨A0x,A1x,A4x,A7x,k0x,k1x,k4x,k7x⟩:=hx;dsimp only at eA hle hcap ha1 ha2 ha3 ha4;subst eA;have HMC:=zH hc;have HAB:Hid ((ad.add (k*8)).block<(w.alloc (zg ⟨A0,Ab,A2,some ad,A4,k0,k1,k2,k3,k4⟩ m)).heap.size):=zH (by rw[zu];exact hab);generalize m.methods[k]=x at*
 clear h0 h1 hin hD hc;have HF:=zH hfr;obtain⟨b,hb⟩:∃b,jx m maps (k:Int)=b:=⟨_,rfl⟩
 rw[hb]at HF⊢
 clear hfr hb;obtain⟨nm,hnm⟩:∃z,maps.length=z:=⟨_,rfl⟩
 have HMN:=zH hnm;rw[hnm]at hl1⊢
 clear hnm;go_enter Tryz.func106,Tryz.ntmps106;go_upto_region 1 with fail
 generalize w.alloc (zg ⟨A0,Ab,A2,some ad,A4,k0,k1,k2,k3,k4⟩ m)=w1 at*
 obtain⟨q0,q1,q2,q3,q4,q5,q6⟩:=HBX.out;obtain⟨c0,c1,c2,c3,c4,c5,c6,c7⟩:=HMC.out;dsimp only at c0 c1 c2 c3 c4 c5 c6 c7;go_upto_region 4 with fail
 have HCN:=zH (qr w1 [.slice A0x x.args.length k0x,.slice A1x x.locals.length k1x,.int .i64 x.ret.1,.int .i64 x.ret.2,.slice A4x x.code.length k4x,.int .i64 x.depth,.int .i64 x.pot,.slice A7x x.phi.length k7x] 53);have HA2:Hid (Below w1.heap.size w1 (w1.alloc (.cells ([.slice A0x x.args.length k0x,.slice A1x x.locals.length k1x,.int .i64 x.ret.1,.int .i64 x.ret.2,.slice A4x x.code.length k4x,.int .i64 x.depth,.int .i64 x.pot,.slice A7x x.phi.length k7x]:List Value).toArray 53))):=zH ((zb _ _).alloc (zn _) _);have HZ2:Hid (w1.heap.size<(w1.alloc (.cells ([.slice A0x x.args.length k0x,.slice A1x x.locals.length k1x,.int .i64 x.ret.1,.int .i64 x.ret.2,.slice A4x x.code.length k4x,.int .i64 x.depth,.int .i64 x.pot,.slice A7x x.phi.length k7x]:List Value).toArray 53)).heap.size):=zH (by simp);generalize w1.alloc (.cells ([.slice A0x x.args.length k0x,.slice A1x x.locals.length k1x,.int .i64 x.ret.1,.int .i64 x.ret.2,.slice A4x x.code.length k4x,.int .i64 x.depth,.int .i64 x.pot,.slice A7x x.phi.length k7x]:List Value).toArray 53)=w2 at*
 have HAD:Hid (Below w1.heap.size w1 w2.drew):=zH HA2.out.drew;have HSM:Hid (ze (zI jK 2) 1 w2.drew w2.drew.heap.size A c maps):=zH (kF RowAt.keeps HM0.out HAD.out);have HKP:Hid (∀W,Below w2.drew.heap.size w2.drew W→(fun w'=>w'.cell? ⟨w1.heap.size,0,none⟩=some (.slice A0x x.args.length k0x)∧w'.cell? ⟨w1.heap.size,1,none⟩=some (.slice A1x x.locals.length k1x)) W):=zH (fun W hW=>by
  have hz:w1.heap.size<w2.drew.heap.size:=HZ2.out;exact⟨(hW.cell (p:=⟨w1.heap.size,0,none⟩) hz).trans (HCN.out 0 _ rfl),(hW.cell (p:=⟨w1.heap.size,1,none⟩) hz).trans (HCN.out 1 _ rfl)⟩)
 have HRF:Hid (Below w2.drew.heap.size w2.drew w2.drew):=zH (zb _ _);clear q0 q1 q2 q3 q4 q5 q6 c0 c1 c2 c3 c4 c5 c6 c7;go_region_held3 (fun w'=>w'.cell? ⟨w1.heap.size,0,none⟩=some (.slice A0x x.args.length k0x)∧w'.cell? ⟨w1.heap.size,1,none⟩=some (.slice A1x x.locals.length k1x)) (first|exact HKP.out _ HRF.out|exact HKP.out _ HX5.out) (first
  |(go_at_call 155;(with_reducible refine(qrk HSM HMZ HMN HDE).mono ?_);rintro e w5 ⟨rfl,hb⟩;have HX5:=zH hb;clear hb))
 go_wp2_with fail
 go_ret;have E1:IntKind.i64.wrap (3+(x.args.length:Int))=3+(x.args.length:Int):=by rw[IntKind.wrap_i64];omega
 have E2:IntKind.i64.wrap (3+(x.args.length:Int)+(x.locals.length:Int))=3+(x.args.length:Int)+(x.locals.length:Int):=by rw[IntKind.wrap_i64];omega
 have E3:IntKind.i64.wrap (3+(x.args.length:Int)+(x.locals.length:Int)+(D:Int))=3+(x.args.length:Int)+(x.locals.length:Int)+(D:Int):=by rw[IntKind.wrap_i64];omega
 exact⟨by rw[HF.out];simp[E1,E2,E3],HW.out.trans ((HAD.out.trans (HX5.out.mono HAD.out.size)).mono HW.out.size)⟩
theorem qa7{m:za}{maps:List (List zo)}{f r:Int}{A:Option Addr}{c n:Nat}{h:zi}{w0 w:World}(HI:Hid (zm w0 w0.heap.size h m))(HX:Hid (Below w0.heap.size w0 w))(HM:Hid (zN m))(HS:Hid (ze (zI jK 2) 1 w w.heap.size A c maps))(HZ:Hid (kW 4000 maps))(HN:Hid (maps.length=n))(HR:Hid (jx m maps f=r)):
  Calls Tryz.prog 106 #[zp h m,.slice A n c,.int .i64 f] w fun e w'=>e= .returned (.int .i64 r)∧Below w.heap.size w w':=by
 obtain rfl:=HN.out;have H:=qlo m maps f A c h w (HI.out.now HX.out) HM.out HS.out HZ.out;rw[HR.out]at H;exact H
def jA(m:za)(cyc:Bool)(g:Nat):Int:=if cyc=true then(zw m (g:Int)).depth else 1
def kK(m:za)(maps:List (List zo))(cyc:Bool)(g:Nat):Int:=jA m cyc g*jx m maps (g:Int)
theorem qk3{m:za}{cyc:Bool}{p:List Nat}{k:Nat}(h:k<p.length)(h0:∀g ∈p.take k,jA m cyc g≠0)(h1:jA m cyc p[k]≠0):∀g ∈p.take (k+1),jA m cyc g≠0:=fun g hg=>by
 rw[XH,Xc h,Xn]at hg;rcases hg with q|q
 ·exact h0 g q
 ·simp at q;rw[q];exact h1
def qe5(m:za)(maps:List (List zo))(cyc:Bool)(p:List Nat)(w:World)(e:Ending)(w':World):Prop:=
 ∃(s:Int) (ok:Bool),e= .returned (.tuple #[.int .i64 s,.bool ok])∧(ok=false→∃g ∈p,jA m cyc g=0)∧(ok=true→(∀g ∈p,jA m cyc g≠0)∧s=vp (kK m maps cyc) p)∧Below w.heap.size w w'
theorem qbf{m:za}{cyc:Bool}(hm:zN m){g:Nat}(hg:g<m.methods.length):0≤jA m cyc g∧jA m cyc g≤8:=by
 have hx:zw m (g:Int) ∈m.methods:=by unfold zw;rw[Xi,Xc hg];exact Xf hg
 have h1:=(hm.method hx).fits.d0;have h2:=(hm.method hx).fits.d1;unfold jA;split<;>omega
theorem q5w{m:za}{maps:List (List zo)}{cyc:Bool}(hm:zN m)(hz:kW 4000 maps)(g:Nat):0≤kK m maps cyc g∧kK m maps cyc g≤32088:=by
 unfold kK;rcases Xk g m.methods.length with q|q
 ·have h1:=qbf (cyc:=cyc) hm q;have h2:=q5q (f:=(g:Int)) hm hz;have h3:0≤jx m maps (g:Int):=q30;have h4:jA m cyc g*jx m maps (g:Int)≤8*4011:=Int.mul_le_mul h1.2 h2 h3 (by omega);exact⟨Int.mul_nonneg h1.1 h3,by omega⟩
 ·have:jx m maps (g:Int)=0:=by unfold jx;rw[Xa (by omega)]
  rw[this,Int.mul_zero];omega
set_option maxHeartbeats 6400000 in
theorem qlp(m:za)(maps:List (List zo))(cyc:Bool)(p:List Nat)(A R:Option Addr)(c cr:Nat)(h:zi)(w:World)(H:zm w w.heap.size h m)(hm:zN m)(hM:ze (zI jK 2) 1 w w.heap.size A c maps)(hz:kW 4000 maps)
  (hR:zq w w.heap.size R (zQ p)) (hp:∀g ∈p,g<m.methods.length) (hpl:p.length≤12):
  Calls Tryz.prog 60 #[zp h m,.slice A maps.length c,.slice R p.length cr,.bool cyc] w (qe5 m maps cyc p w):=by
 have HW:=zH (vr (w:=w) (h:=h) (m:=m));have HBX:=zH (ql w h m);have HZ:Hid (w.heap.size<(w.alloc (zg h m)).heap.size):=zH (by simp);have HI:=zH (H.now HW.out);have HM0:=zH (kF RowAt.keeps hM HW.out);have HR0:Hid (zq (w.alloc (zg h m)) (w.alloc (zg h m)).heap.size R (zQ p)):=zH ((hR.below HW.out).more HW.out.size);have HMZ:=zH hz;have HM:=zH hm;have HP:=zH hp;have hle:=H.methods.le;have hcap:=H.methods.cap;have hl1:=hM.le;have hl2:=hM.cap;obtain⟨nm,hnm⟩:∃z,maps.length=z:=⟨_,rfl⟩
 have HMN:=zH hnm;rw[hnm]at hl1⊢
 clear H hM hz hm hR hp hnm;have HX0:Hid (Below (w.alloc (zg h m)).heap.size (w.alloc (zg h m)) (w.alloc (zg h m))):=zH (zb _ _);go_enter Tryz.func60,Tryz.ntmps60;go_upto_region 1 with fail
 generalize w.alloc (zg h m)=w1 at*
 go_wp2_with fail
 go_loopw [8,15] (fun s i wr=>∃k:Nat,k≤p.length∧i= .int .i64 k∧s= .int .i64 (vp (kK m maps cyc) (p.take k))∧Hid (∀g ∈p.take k,jA m cyc g≠0)∧Hid (Below w1.heap.size w1 wr)) (fun _ i _=>p.length - (intOf i).toNat)
 case atStart=>exact⟨0,Xp _,rfl,rfl,zH (fun g hg=>by cases hg),HX0⟩
 case round=>
  clear HX0;obtain⟨k,hk,rfl,rfl,HNE,HX⟩:=hrel;have HSM:=zH (kF RowAt.keeps HM0.out HX.out);obtain⟨q0,q1,q2,q3,q4,q5,q6⟩:=HBX.out.keep HX.out HZ.out;obtain⟨S,hS⟩:∃z,vp (kK m maps cyc) (p.take k)=z:=⟨_,rfl⟩
  have hSl:=q4e (C:=kK m maps cyc) (c:=p.take k) (M:=32088) (by omega) (q5w HM.out HMZ.out);rw[hS]at hSl;have hSt:((p.take k).length:Int)*32088≤12*32088:=Int.mul_le_mul_of_nonneg_right (by rw[XO];omega) (by omega);obtain⟨hS0,hS1⟩:=hSl;have hS2:S≤385056:=by omega
  have HS:=zH hS;rw[hS];clear hS hSt hS1;by_cases hlt:k<p.length
  ·obtain⟨g,hg⟩:∃g,p[k]=g:=⟨_,rfl⟩
   have hgm:=HP.out p[k] (Xf hlt);obtain⟨ar,rfl,har,r0⟩:=HR0.out k (.int .i64 (g:Int)) (by unfold zQ;rw[XB,Xc hlt,hg];rfl);have r0:=(HX.out.cell (p:=ar.add k) (by rw[zu];exact har)).trans r0;have HTK:Hid (vp (kK m maps cyc) (p.take (k+1))=S+kK m maps cyc g):=zH (by rw[qn8 hlt,HS.out,hg]);have HNX:Hid (jA m cyc g≠0→∀g ∈p.take (k+1),jA m cyc g≠0):=zH (fun h=>qk3 hlt HNE.out (by rw[hg];exact h));have HGP:Hid (g ∈p):=zH (by rw[←hg];exact Xf hlt);rw[hg]at hgm;obtain⟨ad,hx,eA,hab,hin,hc⟩:=Qe HI.out hgm;have c5:=(HX.out.cell (p:=zf (ad.add (g*8)) 5) (by show(ad.add _).block<_;rw[zu];exact hab)).trans hc.c5;have hmn:zw m (g:Int)=m.methods[g]:=by unfold zw;rw[Xi,Xc hgm];rfl
   have hxd:=(HM.out.method (Xf hgm)).fits.d0;have hxd1:=(HM.out.method (Xf hgm)).fits.d1;have HOF:Hid (jA m cyc g=if cyc=true then m.methods[g].depth else 1):=zH (by unfold jA;rw[hmn]);generalize m.methods[g]=x at*
   clear q0 q1 q2 q3 q4 q5 q6;obtain⟨A0,Ab,A2,A3,A4,k0,k1,k2,k3,k4⟩:=h;dsimp only at eA hle hcap;subst eA;obtain⟨q0,q1,q2,q3,q4,q5,q6⟩:=HBX.out.keep HX.out HZ.out;obtain⟨FR,hFR⟩:∃z,jx m maps (g:Int)=z:=⟨_,rfl⟩
   have HFR:=zH hFR;have hF0:0≤FR:=by rw[←hFR];exact q30
   have hF1:FR≤4011:=by rw[←hFR];exact q5q HM.out HMZ.out
   clear hg hin hc hmn hFR har hab;cases cyc
   ·have HO1:Hid (jA m false g=1):=zH (by rw[HOF.out];rfl);have HCC:Hid (kK m maps false g=(1:Int)*FR):=zH (by unfold kK;rw[HO1.out,HFR.out]);go_wp2_with(go_at_call 106;(with_reducible refine(qa7 HI HX HM HSM HMZ HMN HFR).mono ?_);rintro e w5 ⟨rfl,hb⟩;have HX5:=zH (HX.out.trans (hb.mono HX.out.size));clear hb)
    go_roundw;case rel=>exact⟨k+1,by omega,by go_num,by rw[HTK.out,HCC.out];first|rfl|simp,zH (HNX.out (by rw[HO1.out];decide)),HX5⟩
    case measure=>simp[intOf];omega
   have HO1:Hid (jA m true g=x.depth):=zH (by rw[HOF.out];rfl);have HCC:Hid (kK m maps true g=x.depth*FR):=zH (by unfold kK;rw[HO1.out,HFR.out]);have hP0:0≤x.depth*FR:=by rw[←HCC.out];exact(q5w HM.out HMZ.out g).1
   have hP1:x.depth*FR≤32088:=by rw[←HCC.out];exact(q5w HM.out HMZ.out g).2
   generalize x.depth=D at*
   by_cases hd:D=0
   ·have HD0:Hid (jA m true g=0):=zH (HO1.out.trans hd);subst hd;go_wp2_with fail
    refine Xl (v:= .tuple #[.int .i64 0,.bool false]) (by simp[results,Tryz.results60,go_sem]) rfl ?_;exact⟨0,false,rfl,fun _=>⟨g,HGP.out,HD0.out⟩,(fun e=>by cases e),HW.out.trans (HX.out.mono (Xh HZ.out))⟩
   ·have hd0:(D==0)=false:=by simpa using hd
    go_wp2_with(go_at_call 106;(with_reducible refine(qa7 HI HX HM HSM HMZ HMN HFR).mono ?_);rintro e w5 ⟨rfl,hb⟩;have HX5:=zH (HX.out.trans (hb.mono HX.out.size));clear hb)
    go_roundw;case rel=>exact⟨k+1,by omega,by go_num,by rw[HTK.out,HCC.out],zH (HNX.out (by rw[HO1.out];exact hd)),HX5⟩
    case measure=>simp[intOf];omega
  ·obtain rfl:k=p.length:=by omega
   have HF:Hid (S=vp (kK m maps cyc) p):=zH (by rw[←HS.out,XU]);have HNF:Hid (∀g ∈p,jA m cyc g≠0):=zH (by have:=HNE.out;rwa [XU]at this);go_wp2_with fail
   refine Xl (v:= .tuple #[.int .i64 S,.bool true]) (by simp[results,Tryz.results60,go_sem]) rfl ?_;exact⟨S,true,rfl,(fun e=>by cases e),fun _=>⟨HNF.out,HF.out⟩,HW.out.trans (HX.out.mono (Xh HZ.out))⟩
theorem qq5{m:za}{maps:List (List zo)}{cyc:Bool}{p:List Nat}{A R:Option Addr}{c cr n k:Nat}{h:zi}{w0 w:World}(HI:Hid (zm w0 w0.heap.size h m))(HX:Hid (Below w0.heap.size w0 w))(HM:Hid (zN m))(HS:Hid (ze (zI jK 2) 1 w w.heap.size A c maps))(HZ:Hid (kW 4000 maps))(HN:Hid (maps.length=n))
  (HR:Hid (zq w w.heap.size R (zQ p))) (HP:Hid ((∀g ∈p,g<m.methods.length)∧p.length≤12)) (HK:Hid (p.length=k)):
  Calls Tryz.prog 60 #[zp h m,.slice A n c,.slice R k cr,.bool cyc] w (qe5 m maps cyc p w):=by
 obtain rfl:=HN.out;obtain rfl:=HK.out;exact qlp m maps cyc p A R c cr h w (HI.out.now HX.out) HM.out HS.out HZ.out HR.out HP.out.1 HP.out.2
theorem qnd{EL:List (List Int)}{n:Nat}{E:Option Addr}{ce:Nat}{w:World}(hE:Hid (ze (zI zl 1) 1 w w.heap.size E ce EL))(hn:Hid (EL.length=n))(hl:n≤12)(he:Hid (∀l ∈EL,l.length≤1048576)):
  Calls Tryz.prog 59 #[.slice E n ce] w (qe4 EL n w):=
 qis EL n E ce w hE.out hn.out (by omega) he.out
theorem qj1{EL:List (List Int)}{n np:Nat}{E:Option Addr}{ce:Nat}{p:List Nat}{A:Option Addr}{c:Nat}{w:World}{b:Bool}(hE:Hid (ze (zI zl 1) 1 w w.heap.size E ce EL))(hn:Hid (EL.length=n))(hl:n≤12)(he:Hid (kA EL n∧∀g:Nat,(EL[g]?.getD []).length≤12))(hp:Hid ((∀g ∈p,g<n)∧p.length≤12))(hA:Hid (zq w w.heap.size A (zQ p)))(hc:Hid (p.length≤c∧c≤9223372036854775807))(hk:Hid (p.length=np))(hb:Hid (JK EL p=b)):
  Calls Tryz.prog 61 #[.slice E n ce,.slice A np c] w fun e w'=>e= .returned (.bool b)∧Below w.heap.size w w':=by
 obtain rfl:=hk.out;have H:=qh8 EL n E ce p A c w hE.out hn.out (by omega) he.out.1 hp.out.1 hA.out hc.out.1 hc.out.2;rw[hb.out]at H;exact H
theorem qoa{w:World}{gi:Nat}{p:List Nat}(hg:gi<w.heap.size)(h:∀(j v:Nat),p[j]? =some v→w.cell? ⟨gi,j,none⟩=some (.int .i64 (v:Int))):zq w w.heap.size (some ⟨gi,0,none⟩) (zQ p):=fun j u hj=>by
 unfold zQ at hj;rw[XB]at hj;cases hp:p[j]? with
 |none=>rw[hp]at hj;cases hj
 |some v=>
  rw[hp]at hj;injection hj with hj;subst hj;refine⟨_,rfl,hg,?_⟩;rw[show Addr.add ⟨gi,0,none⟩ j=⟨gi,j,none⟩by unfold Addr.add;split<;>simp_all];exact h j v hp
theorem qva{EL:List (List Int)}{n:Nat}{P:List (List Nat)}(h:vt EL n P){i f:Nat}(hi:i<P.length)(hf:f ∈P[i]):ju EL n f f=JK EL P[i]:=
 XV.mpr ((h.cyc hi hf).symm.trans qvb.symm)
def sqV(n:Nat)(G:List Nat):List Value:=(G.map fun g=>Value.slice (some ⟨g,0,none⟩) n n)++List.replicate (n - G.length) (Value.slice none 0 0)
structure Zh(w:World)(gO n:Nat)(G:List Nat)(W:List (List Bool)):Prop where
 blk:zd w gO (sqV n G) 119
 len:G.length=W.length
 rows:∀(i:Nat) g r,G[i]? =some g→W[i]? =some r→zd w g (r.map Value.bool) 4∧r.length=n
 diff:G.Nodup
 apart:∀g ∈G,¬g=gO
theorem Zh.keep{w w':World}{gO n:Nat}{G:List Nat}{W:List (List Bool)}(h:Zh w gO n G W)(hb:Below w.heap.size w w'):Zh w' gO n G W:=
 ⟨h.blk.keep hb h.blk.lt,h.len,fun i g r hg hr=>⟨(h.rows i g r hg hr).1.keep hb (h.rows i g r hg hr).1.lt,(h.rows i g r hg hr).2⟩,h.diff,h.apart⟩
theorem zd.other{w:World}{g:Nat}{vs:List Value}{T:TypeId}(h:zd w g vs T){p:Addr}(v:Value)(hp:¬p.block=g):zd (w.setCell p v) g vs T:=by
 unfold zd at h⊢
 rw[heap_setCell_other w p g v (fun e=>hp e.symm)];exact h
theorem Zh.row_in{w:World}{gO n i:Nat}{G:List Nat}{W:List (List Bool)}(h:Zh w gO n G W)(hi:i<G.length):zd w G[i] ((W[i]?.getD []).map Value.bool) 4∧(W[i]?.getD []).length=n:=by
 have hw:i<W.length:=by rw[←h.len];exact hi
 rw[Xc hw,Wb];exact h.rows i G[i] W[i] (Xc hi) (Xc hw)
theorem Zh.set{w:World}{gO n i j:Nat}{G:List Nat}{W:List (List Bool)}(h:Zh w gO n G W)(hi:i<G.length)(b:Bool):Zh (w.setCell ⟨G[i],j,none⟩ (.bool b)) gO n G (Jf W i j b):=by
 obtain⟨h1,h2⟩:=h.row_in hi;refine⟨h.blk.other _ (h.apart _ (Xf hi)),by unfold Jf;rw[XI];exact h.len,fun k g r hg hr=> ?_,h.diff,h.apart⟩;unfold Jf at hr;rw[Wc]at hr;by_cases hk:i=k
 ·subst hk;have hw:i<W.length:=by rw[←h.len];exact hi
  rw[Xb rfl,Xb hw]at hr;injection hr with hr;subst hr;rw[Xc hi]at hg;injection hg with hg;subst hg;refine⟨?_,by rw[XI];exact h2⟩;rw[List.map_set];exact h1.set j _
 ·rw[Xa hk]at hr;obtain⟨h3,h4⟩:=h.rows k g r hg hr;refine⟨h3.other _ (fun e=>hk ?_),h4⟩;have e1:G[i]? =G[k]? :=by rw[hg,Xc hi];exact congrArg some e
  exact(List.getElem?_inj hi h.diff).mp e1
theorem Zh.add{w:World}{gO n g:Nat}{G:List Nat}{W:List (List Bool)}{r:List Bool}(h:Zh w gO n G W)(hn:G.length<n)(hr:r.length=n)(hg:zd w g (r.map Value.bool) 4)(hG:∀x ∈G,¬x=g)(hO:¬g=gO):
  Zh (w.setCell ⟨gO,G.length,none⟩ (.slice (some ⟨g,0,none⟩) n n)) gO n (G++[g]) (W++[r]):=by
 refine⟨?_,by rw[Xe,Xe,h.len];rfl,fun k x y hx hy=> ?_,?_,fun x hx=> ?_⟩
 ·have e:sqV n (G++[g])=(sqV n G).set G.length (.slice (some ⟨g,0,none⟩) n n):=by
   unfold sqV;obtain⟨d,hd⟩:∃d,n - G.length=d+1:=⟨n - G.length - 1,by omega⟩
   rw[Xe,XY,hd,show n - (G.length+[g].length)=d by simp;omega,List.set_append_right (h:=by rw[Xo];exact zn _),Xo,Nat.sub_self,List.replicate_succ,List.set_cons_zero,Xu];rfl
  rw[e];exact h.blk.set _ _
 ·rcases Xk k G.length with q|q
  ·rw[XN q]at hx;rw[XN (by rw[←h.len];exact q)]at hy;obtain⟨h3,h4⟩:=h.rows k x y hx hy;exact⟨h3.other _ (fun e=>h.apart x (Xs hx) e.symm),h4⟩
  ·rw[XP q]at hx;have hz:k - G.length=0:=by
    rcases Wo (k - G.length)with z|z
    ·exact z
    ·rw[Xv (by simp;omega)]at hx;cases hx
   rw[hz]at hx;simp at hx;subst hx;rw[XP (by rw[←h.len];exact q),←h.len,hz]at hy;simp at hy;subst hy;exact⟨hg.other _ (fun e=>hO e.symm),hr⟩
 ·rw[List.nodup_append];exact⟨h.diff,by simp,fun a ha b hb=>by simp at hb;subst hb;exact hG a ha⟩
 ·rcases Xn.mp hx with q|q
  ·exact h.apart x q
  ·simp at q;subst q;exact hO
set_option maxHeartbeats 3200000 in
theorem qnw(m:za)(op a b:Int)(h:zi)(w:World)(H:zm w w.heap.size h m)(hn:m.classes.length≤1000)(hf:∀x ∈m.classes,x.fields.length≤1000)(hwa:op=23→IntKind.i64.wrap (1+a)=1+a)(ht:∀t ∈qp m op a b,0≤t∧t<m.methods.length):
  Calls Tryz.prog 20 #[zp h m,zF op a b] w fun e w'=>e= .returned (.int .i64 (kd m op a b))∧Below w.heap.size w w':=by
 obtain⟨hq,hc,hb,hz⟩:=VK h m op a b w;have HW:=zH hb;have HC:=zH hc;have HZ:=zH hz;have HBX:=zH hq;have HI:=zH (H.now hb);have HN:=zH hn;have HF:=zH hf;have HT:=zH ht;have hle:=H.methods.le;have hcap:=H.methods.cap;clear hb hq hc hz H hf ht;obtain⟨v,hv⟩:∃v,kd m op a b=v:=⟨_,rfl⟩
 have HV:=zH hv;rw[hv];clear hv;go_enter Tryz.func20,Tryz.ntmps20;go_upto_region 1 with fail
 generalize(w.alloc (zg h m)).alloc (.cells #[.int .i64 op,.int .i64 a,.int .i64 b] 55)=w1 at*
 have HL:Hid (w.heap.size<w1.heap.size∧w.heap.size+1<w1.heap.size):=zH (by have:=HZ.out;exact⟨by omega,by omega⟩);have HX:Hid (Below w1.heap.size w1 w1):=zH (zb _ _);obtain⟨q0,q1,q2,q3,q4,q5,q6⟩:=HBX.out;obtain⟨j0,j1,j2⟩:=qw HC.out;by_cases h22:op=22
 ·subst h22;obtain⟨L,hL⟩:∃L,qh m.classes a=L:=⟨_,rfl⟩
  have hLl:L.length≤1000000:=by rw[←hL];exact q4a HF.out hn a
  have HR:Hid (v=1+(L.length:Int)):=zH (by rw[←HV.out,←hL];rfl);have HFL:=zH hL;clear hL hwa;go_wp2_with(first|(go_at_call 46;(with_reducible refine(qjc HI HX HFL hn HF).mono ?_);rintro e w3 ⟨v3,rfl,ho,hb⟩;obtain⟨A1,k1,rfl,hS,_⟩:=YN ho;have HX3:=zj HX hb;obtain⟨q0,q1,q2,q3,q4,q5,q6⟩:=HBX.out.keep HX3.out HL.out.1;have j1:=(HC.out.keep HX3.out HL.out.2) 1 _ rfl;clear ho hb hS))
  go_ret;exact⟨by rw[HR.out];rfl,HW.out.trans (HX3.out.mono HW.out.size)⟩
 by_cases h23:op=23
 ·subst h23;have HR:Hid (v=1+a):=zH (by rw[←HV.out];rfl);have hwa:=hwa rfl;go_wp2_with fail
  go_ret;exact⟨by rw[HR.out];rfl,HW.out⟩
 obtain⟨L,hL⟩:∃L,qp m op a b=L:=⟨_,rfl⟩
 have hLl:L.length≤1000:=by rw[←hL];exact q4d m op a b hn
 have HR:Hid (v=jb m L):=zH (by rw[←HV.out,←hL];unfold kd;rw[Xa h22,Xa h23]);have HTL:=zH hL;have HT:Hid (∀t ∈L,0≤t∧t<(m.methods.length:Int)):=zH (by rw[←hL];exact HT.out);clear hL hwa;go_wp2_with(first|(go_at_call 47;(with_reducible refine(q4h HI HX HN HTL).mono ?_);rintro e w3 ⟨v3,rfl,ho,hb⟩;have HX3:=zj HX hb;obtain⟨A9,c9,rfl,hl9,hc9,hk9⟩:=kO ho;have HL9:=zH hl9;obtain⟨q0,q1,q2,q3,q4,q5,q6⟩:=HBX.out.keep HX3.out HL.out.1;obtain⟨j0,j1,j2⟩:=qw (HC.out.keep HX3.out HL.out.2);clear ho hb hl9))
 go_loopw [5,7] (fun d i wr=>∃k:Nat,k≤L.length∧i= .int .i64 k∧d= .int .i64 (jb m (L.take k))∧Hid (Below w3.heap.size w3 wr)) (fun _ i _=>L.length - (intOf i).toNat)
 case atStart=>exact⟨0,Xp _,rfl,rfl,zH (zb _ _)⟩
 case round=>
  obtain⟨k,hk,rfl,rfl,HXR⟩:=hrel;have HXX:=zH (HX3.out.trans (HXR.out.mono HX3.out.size));obtain⟨q0,q1,q2,q3,q4,q5,q6⟩:=HBX.out.keep HXX.out HL.out.1;obtain⟨P,hP⟩:∃P,jb m (L.take k)=P:=⟨_,rfl⟩
  have HP:=zH hP;rw[hP];clear hP;by_cases hlt:k<L.length
  ·obtain⟨a9,rfl,hb9,p9⟩:=qde HL9.out hlt;have p9:=(HXR.out.cell (p:=a9.add k) (by rw[zu];exact hb9)).trans p9;have HPT:Hid (jb m (L.take (k+1))=jZ m P L[k]):=zH (by rw[qcy hlt,HP.out]);obtain⟨t0,t1⟩:=HT.out L[k] (Xf hlt);generalize L[k]=t at*
   obtain⟨g,rfl⟩:=Xq t0;have hg:g<m.methods.length:=by omega
   obtain⟨ad,hx,eA,hab,hin,hcm⟩:=Qe HI.out hg;have hc6:=(hcm.keep HXX.out (by rw[zu];exact hab)).c6;have eg:zw m (g:Int)=m.methods[g]:=by unfold zw;rw[Xi,Xc hg];rfl
   have HPT:Hid (jb m (L.take (k+1))=if m.methods[g].pot>P then m.methods[g].pot else P):=zH (by rw[HPT.out];unfold jZ;rw[eg]);rw[eA]at q3;generalize m.methods[g]=x at*
   obtain⟨u,hu⟩:∃u,x.pot=u:=⟨_,rfl⟩
   rw[hu]at hc6 HPT;clear hu hin hcm eg eA;by_cases hgt:u>P
   ·have HY:Hid (jb m (L.take (k+1))=u):=zH (by rw[HPT.out,Xb hgt]);go_wp2_with fail
    go_region
    go_wp2_with fail
    go_region
    go_wp2_with fail
    go_roundw;case rel=>exact⟨k+1,by omega,by go_num,by rw[HY.out],zH HXR.out.drew.drew⟩
    case measure=>simp[intOf];omega
   ·have HY:Hid (jb m (L.take (k+1))=P):=zH (by rw[HPT.out,Xa hgt]);go_wp2_with fail
    go_region
    go_wp2_with fail
    go_roundw;case rel=>exact⟨k+1,by omega,by go_num,by rw[HY.out],zH HXR.out.drew⟩
    case measure=>simp[intOf];omega
  ·have HY:Hid (v=P):=zH (by rw[HR.out,←HP.out,XK (by omega)]);go_wp2_with fail
   go_ret;exact⟨by rw[HY.out];rfl,HW.out.trans (HXX.out.mono HW.out.size)⟩
theorem qs0{m:za}{op a b v:Int}{h:zi}{w0 w:World}(HI:Hid (zm w0 w0.heap.size h m))(HX:Hid (Below w0.heap.size w0 w))(HN:Hid (m.classes.length≤1000))(HF:Hid (∀x ∈m.classes,x.fields.length≤1000))(HA:Hid (op=23→IntKind.i64.wrap (1+a)=1+a))(HT:Hid (∀t ∈qp m op a b,0≤t∧t<m.methods.length))(HV:Hid (kd m op a b=v)):
  Calls Tryz.prog 20 #[zp h m,zF op a b] w fun e w'=>e= .returned (.int .i64 v)∧Below w.heap.size w w':=by
 have H:=qnw m op a b h w (HI.out.now HX.out) HN.out HF.out HA.out HT.out;rw[HV.out]at H;exact H
theorem q2b{op a b:Int}(h:qf op a b=true):0≤a∧a≤255∧0≤b∧b≤255:=by
 have:=Xy h;omega
theorem qcq{m:za}{c:Int}{ab:List Int}:∀{l:List Int} {k:Nat},kt m c ab k l=true→∀s ∈l,s.toNat<m.methods.length
 | [],_,_,s,hs=>nomatch hs
 |t::l,k,h,s,hs=>by
  have h:(kZ m c ab k t&& kt m c ab (k+1) l)=true:=h;rw[Xr]at h;rcases XA.mp hs with rfl|hs
  ·have h1:=h.1;unfold kZ at h1;rcases Xk s.toNat m.methods.length with g|g
   ·exact g
   ·rw[Xv g]at h1;cases h1
  ·exact qcq h.2 s hs
theorem qh6{m:za}(hm:zN m){k b t:Int}(h:jP m.classes k b=some t):0≤t∧t<m.methods.length:=by
 unfold jP at h;split at h
 ·cases hc:m.classes[k.toNat]? with
  |none=>rw[hc]at h;cases h
  |some c=>
   rw[hc]at h;have h:c.slots[b.toNat]? =some t:=h;have ht:t ∈c.slots:=Xs h;have hb:=hm.cls _ c hc;have hf:=(hm.fits.ct c (Xs hc)).st t ht;unfold kV at hb;simp only[Xr]at hb;have:=qcq hb.2.2.2.2 t ht;omega
 ·cases h
theorem q94{m:za}(hm:zN m){x:zh}(hx:x ∈m.methods){op a b:Int}(hi:(op,a,b) ∈x.code):∀t ∈qp m op a b,0≤t∧t<m.methods.length:=fun t ht=>by
 unfold qp at ht;split at ht
 ·rename_i h31;subst h31;have hn:=(hm.method hx).co _ hi;have hs:=q2b ((hm.method hx).fits.ct _ hi);dsimp only at hn hs;have hn:decide (a<m.methods.length)=true:=hn;rw[XL]at ht;subst ht;exact⟨hs.1,Xy hn⟩
 ·split at ht
  ·unfold vJ at ht;obtain⟨k,_,hk⟩:=List.mem_filterMap.mp ht;exact qh6 hm hk
  ·cases ht
theorem qsn{m:za}(hm:zN m)(t:Int):0≤(zw m t).pot∧(zw m t).pot≤4096:=by
 unfold zw;cases h:m.methods[t.toNat]? with
 |none=>exact⟨by decide,by decide⟩
 |some x=>have:=(hm.method (Xs h)).fits;exact⟨this.p0,this.p1⟩
theorem qb9{m:za}(hm:zN m)(L:List Int):0≤jb m L∧jb m L≤4096:=by
 have H:∀(L:List Int) (p:Int),0≤p→p≤4096→0≤L.foldl (jZ m) p∧L.foldl (jZ m) p≤4096:=by
  intro L
  induction L with
  |nil=>intro p h1 h2;exact⟨h1,h2⟩
  |cons t L ih=>
   intro p h1 h2;have:=qsn hm t;refine ih (jZ m p t) ?_ ?_<;>unfold jZ<;>split<;>omega
 exact H L 0 (by decide) (by decide)
theorem qkn{m:za}(hm:zN m){x:zh}(hx:x ∈m.methods){op a b:Int}(hi:(op,a,b) ∈x.code):0≤kd m op a b∧kd m op a b≤1000001:=by
 have hs:=q2b ((hm.method hx).fits.ct _ hi);dsimp only at hs;have hf:=q4a (cl:=m.classes) (fun c hc=>by have:=(hm.fits.ct c hc).fl;omega) (by have:=hm.fits.cl;omega) a;have hp:=qb9 hm (qp m op a b);unfold kd;split
 ·omega
 ·split<;>omega
theorem qje{m:za}{x:zh}{op a b v:Int}{h:zi}{w0 w:World}(HI:Hid (zm w0 w0.heap.size h m))(HX:Hid (Below w0.heap.size w0 w))(HM:Hid (zN m))(HXM:Hid (x ∈m.methods))(HC:Hid ((op,a,b) ∈x.code))(HV:Hid (kd m op a b=v)):
  Calls Tryz.prog 20 #[zp h m,zF op a b] w fun e w'=>e= .returned (.int .i64 v)∧Below w.heap.size w w':=by
 refine qs0 HI HX (zH (by have:=HM.out.fits.cl;omega)) (zH (fun c hc=>by have:=(HM.out.fits.ct c hc).fl;omega)) (zH (fun _=> ?_)) (zH (q94 HM.out HXM.out HC.out)) HV;have hs:=q2b ((HM.out.method HXM.out).fits.ct _ HC.out);dsimp only at hs;exact IntWalk.i64_in (1+a) ⟨by omega,by omega⟩
theorem fgv_3(m:za)(x:zh)(f:Nat)(a b:Int)(hx:m.methods[f]? =some x)(ha:a≤9223372036854775807)(tk:List (Int×Int))(A:Option Addr)(c:Nat)(h:zi)(w:World)(H:zm w w.heap.size h m):
  Calls Tryz.prog 142 #[zp h m,zF 3 a b,.int .i64 f,.slice A tk.length c] w (qm (zV m x 3 a b tk) w):=by
 have e1:zV m x 3 a b tk=[qM x a]:=by simp[zV,jg]
 rw[e1];clear e1;obtain⟨t,ht⟩:∃t,qM x a=t:=⟨_,rfl⟩
 have HT:=zH ht;rw[ht];clear ht;obtain⟨hw,hp⟩:=qH h m 3 a b w;have HW:=zH hw;have HP:=zH hp;have HI:=zH (H.now hw);clear hw hp H;go_enter Tryz.func142,Tryz.ntmps142;go_upto_region 1 with fail
 change Code.wp _ _ _ _ (qu h m 3 a b w);go_upto_region 2 with(go_at_call 171;(refine(qI (h:=h) (m:=m) (w:=w)).mono ?_);rintro e w2 ⟨rfl,rfl⟩)
 generalize qz h m 3 a b w=w2 at*
 have HX:Hid (Below w2.heap.size w2 w2):=zH (zb _ _);have HN:=zH HP.out.fnlt;have HC:=zH HP.out.fn;obtain⟨q0,q1,q2,q3,q4,q5,q6⟩:=HP.out.img;obtain⟨o0,o1,o2⟩:=qw HP.out.ins;go_wp2_with(go_at_call 172;(with_reducible refine(qc1 HI HX hx ha HT).mono ?_);rintro e w3 ⟨rfl,hb⟩;have HX3:=zH hb;clear hb)
 go_ret;exact⟨_,_,rfl,Vk (by simp) (by go_simp) (by go_simp),HW.out.trans ((HX3.out.alloc HX3.out.size _).mono HW.out.size)⟩
theorem fgv_29(m:za)(x:zh)(f:Nat)(j:Nat)(b:Int)(t:Int×Int)(hs:m.statics[j]? =some t)(tk:List (Int×Int))(A:Option Addr)(c:Nat)(h:zi)(w:World)(H:zm w w.heap.size h m):
  Calls Tryz.prog 142 #[zp h m,zF 29 (j:Int) b,.int .i64 f,.slice A tk.length c] w (qm (zV m x 29 (j:Int) b tk) w):=by
 have e0:Jr m (j:Int)=t:=by unfold Jr;rw[Xi,hs];rfl
 have e1:zV m x 29 (j:Int) b tk=[t]:=by simp[zV,jg,e0]
 rw[e1];clear e1;have HS:=zH hs;clear hs e0;obtain⟨hw,hp⟩:=qH h m 29 (j:Int) b w;have HW:=zH hw;have HP:=zH hp;have HI:=zH (H.now hw);clear hw hp H;go_enter Tryz.func142,Tryz.ntmps142;go_upto_region 1 with fail
 change Code.wp _ _ _ _ (qu h m 29 (j:Int) b w);go_upto_region 2 with(go_at_call 171;(refine(qI (h:=h) (m:=m) (w:=w)).mono ?_);rintro e w2 ⟨rfl,rfl⟩)
 generalize qz h m 29 (j:Int) b w=w2 at*
 have HX:Hid (Below w2.heap.size w2 w2):=zH (zb _ _);have HN:=zH HP.out.fnlt;have HC:=zH HP.out.fn;obtain⟨q0,q1,q2,q3,q4,q5,q6⟩:=HP.out.img;obtain⟨o0,o1,o2⟩:=qw HP.out.ins;go_wp2_with(go_at_call 174;(with_reducible refine(qa0 HI HX HS).mono ?_);rintro e w3 ⟨rfl,hb⟩;have HX3:=zH hb;clear hb)
 go_ret;exact⟨_,_,rfl,Vk (by simp) (by go_simp) (by go_simp),HW.out.trans ((HX3.out.alloc HX3.out.size _).mono HW.out.size)⟩
theorem fgv_31(m:za)(x:zh)(f:Nat)(j:Nat)(b:Int)(y:zh)(hy:m.methods[j]? =some y)(tk:List (Int×Int))(A:Option Addr)(c:Nat)(h:zi)(w:World)(H:zm w w.heap.size h m):
  Calls Tryz.prog 142 #[zp h m,zF 31 (j:Int) b,.int .i64 f,.slice A tk.length c] w (qm (zV m x 31 (j:Int) b tk) w):=by
 have e0:zw m (j:Int)=y:=by unfold zw;rw[Xi,hy];rfl
 have e1:zV m x 31 (j:Int) b tk=jO y:=by simp[zV,jg,e0]
 rw[e1];clear e1;clear e0;obtain⟨hw,hp⟩:=qH h m 31 (j:Int) b w;have HW:=zH hw;have HP:=zH hp;have HI:=zH (H.now hw);clear hw hp H;go_enter Tryz.func142,Tryz.ntmps142;go_upto_region 1 with fail
 change Code.wp _ _ _ _ (qu h m 31 (j:Int) b w);go_upto_region 2 with(go_at_call 171;(refine(qI (h:=h) (m:=m) (w:=w)).mono ?_);rintro e w2 ⟨rfl,rfl⟩)
 generalize qz h m 31 (j:Int) b w=w2 at*
 have HX:Hid (Below w2.heap.size w2 w2):=zH (zb _ _);have HN:=zH HP.out.fnlt;have HC:=zH HP.out.fn;obtain⟨q0,q1,q2,q3,q4,q5,q6⟩:=HP.out.img;obtain⟨o0,o1,o2⟩:=qw HP.out.ins;go_wp2_with(go_at_call 178;(with_reducible refine(q52 HI HX hy).mono ?_);rintro e w3 ⟨A3,c3,rfl,hs3,hb⟩;have HX3:=zj HX hb;have HS3:=zH hs3;clear hb hs3)
 go_ret;exact⟨_,_,rfl,HS3.out,HW.out.trans (HX3.out.mono HW.out.size)⟩
theorem fgv_27(m:za)(x:zh)(f:Nat)(a:Int)(k:Nat)(t:Int×Int)(hk:(qh m.classes a)[k]? =some t)(hn:m.classes.length≤1000)(hf:∀x ∈m.classes,x.fields.length≤1000)(tk:List (Int×Int))(A:Option Addr)(c:Nat)(h:zi)(w:World)(H:zm w w.heap.size h m):
  Calls Tryz.prog 142 #[zp h m,zF 27 a (k:Int),.int .i64 f,.slice A tk.length c] w (qm (zV m x 27 a (k:Int) tk) w):=by
 have e0:JA m a (k:Int)=t:=by unfold JA;rw[Xi,hk];rfl
 have e1:zV m x 27 a (k:Int) tk=[t]:=by simp[zV,jg,e0]
 rw[e1];clear e1;have HK:=zH hk;have HF:=zH hf;clear hk hf e0;obtain⟨hw,hp⟩:=qH h m 27 a (k:Int) w;have HW:=zH hw;have HP:=zH hp;have HI:=zH (H.now hw);clear hw hp H;go_enter Tryz.func142,Tryz.ntmps142;go_upto_region 1 with fail
 change Code.wp _ _ _ _ (qu h m 27 a (k:Int) w);go_upto_region 2 with(go_at_call 171;(refine(qI (h:=h) (m:=m) (w:=w)).mono ?_);rintro e w2 ⟨rfl,rfl⟩)
 generalize qz h m 27 a (k:Int) w=w2 at*
 have HX:Hid (Below w2.heap.size w2 w2):=zH (zb _ _);have HN:=zH HP.out.fnlt;have HC:=zH HP.out.fn;obtain⟨q0,q1,q2,q3,q4,q5,q6⟩:=HP.out.img;obtain⟨o0,o1,o2⟩:=qw HP.out.ins;go_wp2_with(go_at_call 173;(with_reducible refine(qc2 HI HX HK hn HF).mono ?_);rintro e w3 ⟨rfl,hb⟩;have HX3:=zj HX hb;clear hb)
 go_ret;exact⟨_,_,rfl,Vk (by simp) (by go_simp) (by go_simp),HW.out.trans ((HX3.out.alloc HX3.out.size _).mono HW.out.size)⟩
theorem fgv_32(m:za)(x:zh)(f:Nat)(a b:Int)(k:Nat)(hs:jP m.classes a b=some (k:Int))(y:zh)(hy:m.methods[k]? =some y)(tk:List (Int×Int))(A:Option Addr)(c:Nat)(h:zi)(w:World)(H:zm w w.heap.size h m):
  Calls Tryz.prog 142 #[zp h m,zF 32 a b,.int .i64 f,.slice A tk.length c] w (qm (zV m x 32 a b tk) w):=by
 have e00:kY m a b=(k:Int):=by unfold kY;rw[hs];rfl
 have e0:zw m (k:Int)=y:=by unfold zw;rw[Xi,hy];rfl
 have HSL:=zH hs;have HY:=zH hy;have e1:zV m x 32 a b tk=jO y:=by simp[zV,jg,e0,e00]
 rw[e1];clear e1;clear e00 e0 hs hy;obtain⟨hw,hp⟩:=qH h m 32 a b w;have HW:=zH hw;have HP:=zH hp;have HI:=zH (H.now hw);clear hw hp H;go_enter Tryz.func142,Tryz.ntmps142;go_upto_region 1 with fail
 change Code.wp _ _ _ _ (qu h m 32 a b w);go_upto_region 2 with(go_at_call 171;(refine(qI (h:=h) (m:=m) (w:=w)).mono ?_);rintro e w2 ⟨rfl,rfl⟩)
 generalize qz h m 32 a b w=w2 at*
 have HX:Hid (Below w2.heap.size w2 w2):=zH (zb _ _);have HN:=zH HP.out.fnlt;have HC:=zH HP.out.fn;obtain⟨q0,q1,q2,q3,q4,q5,q6⟩:=HP.out.img;obtain⟨o0,o1,o2⟩:=qw HP.out.ins;go_wp2_with fail
 have HXD:Hid (Below w2.heap.size w2 w2.drew):=zH (zb _ _).drew;have HKP:Hid (∀W,Below w2.heap.size w2 W→(fun w'=>w'.cell? ⟨w.heap.size,0,none⟩=some (.slice h.A0 m.classes.length h.c0)∧w'.cell? ⟨w.heap.size,1,none⟩=some (.slice h.A1 m.statics.length h.c1)∧w'.cell? ⟨w.heap.size,2,none⟩=some (.slice h.A2 m.ints.length h.c2)∧w'.cell? ⟨w.heap.size,3,none⟩=some (.slice h.A3 m.methods.length h.c3)∧w'.cell? ⟨w.heap.size,4,none⟩=some (.slice h.A4 m.entries.length h.c4)∧w'.cell? ⟨w.heap.size,5,none⟩=some (.int .i64 m.stack)∧w'.cell? ⟨w.heap.size,6,none⟩=some (.int .i64 m.heap)∧w'.cell? ⟨w.heap.size+1,0,none⟩=some (.int .i64 32)∧w'.cell? ⟨w.heap.size+1,1,none⟩=some (.int .i64 a)∧w'.cell? ⟨w.heap.size+1,2,none⟩=some (.int .i64 b)) W):=zH (fun W hW=>by
  have hz:=HP.out.size;obtain⟨d0,d1,d2,d3,d4,d5,d6⟩:=HP.out.img.keep hW (by omega);have di:=HP.out.ins.keep hW (by omega);exact⟨d0,d1,d2,d3,d4,d5,d6,di 0 _ rfl,di 1 _ rfl,di 2 _ rfl⟩)
 clear q0 q1 q2 q3 q4 q5 q6 o0 o1 o2;refine wp_region_noPanic ?_;refine wp_region_held_drew (S:=(fun w'=>w'.cell? ⟨w.heap.size,0,none⟩=some (.slice h.A0 m.classes.length h.c0)∧w'.cell? ⟨w.heap.size,1,none⟩=some (.slice h.A1 m.statics.length h.c1)∧w'.cell? ⟨w.heap.size,2,none⟩=some (.slice h.A2 m.ints.length h.c2)∧w'.cell? ⟨w.heap.size,3,none⟩=some (.slice h.A3 m.methods.length h.c3)∧w'.cell? ⟨w.heap.size,4,none⟩=some (.slice h.A4 m.entries.length h.c4)∧w'.cell? ⟨w.heap.size,5,none⟩=some (.int .i64 m.stack)∧w'.cell? ⟨w.heap.size,6,none⟩=some (.int .i64 m.heap)∧w'.cell? ⟨w.heap.size+1,0,none⟩=some (.int .i64 32)∧w'.cell? ⟨w.heap.size+1,1,none⟩=some (.int .i64 a)∧w'.cell? ⟨w.heap.size+1,2,none⟩=some (.int .i64 b))) (by kernel_rfl) (HKP.out _ HXD.out) (fun hHeld=> ?_);refine mT 0 (h:=mT 1 (h:=mT 2 (h:= ?_)));refine wpAnyH_ready (rs:=[3]) (by kernel_rfl) (by simp) ?_;refine AllReadyH.cons (o:=_) rfl (fun K hK=> ?_) AllReadyH.nil;go_simp;go_wp2_with(go_at_call 177;(with_reducible refine(qdh HI HXD HSL).mono ?_);rintro e w4 ⟨rfl,hb⟩;have HX4:=zj HXD hb;clear hb)
 refine hK.out _ _ (HKP.out _ HX4.out) (fun hHeld=> ?_);clear hK K;try simp only[sA,sB,sC,Act.put,sD,sE,sF]
 refine wpAnyH_ready (rs:=[4]) (by kernel_rfl) (by simp) ?_;refine AllReadyH.cons (o:=_) rfl (fun K hK=> ?_) AllReadyH.nil;go_simp;go_wp2_with(go_at_call 178;(with_reducible refine(q52 HI HX4 HY.out).mono ?_);rintro e w5 ⟨A3,c3,rfl,hs3,hb⟩;have HX3:=zj HX4 hb;have HS3:=zH hs3;clear hb hs3)
 refine hK.out _ _ (HKP.out _ HX3.out) (fun hHeld=> ?_);clear hK K;try simp only[sA,sB,sC,Act.put,sD,sE,sF]
 refine mT 5 (h:= ?_);refine wpAnyH_done (by kernel_rfl) ?_ _;refine NoPanic.normal ?_;go_wp2_with fail
 go_ret;exact⟨_,_,rfl,HS3.out,HW.out.trans (HX3.out.mono HW.out.size)⟩
theorem fgv_6(m:za)(x:zh)(f:Nat)(a b:Int)(tk:List (Int×Int))(A:Option Addr)(c:Nat)(htl:tk.length≤1000)(h:zi)(w:World)(H:zm w w.heap.size h m)(HT:ze zc 2 w w.heap.size A c tk):
  Calls Tryz.prog 142 #[zp h m,zF 6 a b,.int .i64 f,.slice A tk.length c] w (qm (zV m x 6 a b tk) w):=by
 have e1:zV m x 6 a b tk=tk++tk:=by simp[zV,jg]
 rw[e1];clear e1;obtain⟨N,hN⟩:∃N,tk++tk=N:=⟨_,rfl⟩
 have HNN:=zH hN;rw[hN];clear hN;obtain⟨hw,hp⟩:=qH h m 6 a b w;have HW:=zH hw;have HP:=zH hp;have HI:=zH (H.now hw);have HTK:=zH ((HT.below_to zc.keeps hw (zn _)).keep' zc.keeps hw.size (fun _ _=>rfl));clear hw hp H HT;go_enter Tryz.func142,Tryz.ntmps142;go_upto_region 1 with fail
 change Code.wp _ _ _ _ (qu h m 6 a b w);go_upto_region 2 with(go_at_call 171;(refine(qI (h:=h) (m:=m) (w:=w)).mono ?_);rintro e w2 ⟨rfl,rfl⟩)
 generalize qz h m 6 a b w=w2 at*
 have HX:Hid (Below w2.heap.size w2 w2):=zH (zb _ _);have HN:=zH HP.out.fnlt;have HC:=zH HP.out.fn;obtain⟨q0,q1,q2,q3,q4,q5,q6⟩:=HP.out.img;obtain⟨o0,o1,o2⟩:=qw HP.out.ins;have HA:Hid (Below w2.heap.size w2 (w2.alloc (.cells #[.slice A tk.length c,.slice A tk.length c] 23))):=zH ((zb _ _).alloc (zn _) _);go_wp2_with(go_at_call 141;(with_reducible refine(qla (g:=w2.heap.size) HNN (q0t HTK.out _) (q0t HTK.out _) (by simp) (qr w2 [.slice A tk.length c,.slice A tk.length c] 23) htl htl).mono ?_);rintro e w3 ⟨v3,rfl,ho3,hb3⟩;have HO3:=zH (ja ho3 HA.out.size);have HX3:=zj HA hb3;clear ho3 hb3)
 go_ret;exact kQ.some_ (w0:=w2) ⟨_,rfl,HO3.out,HX3.out⟩ HW.out
def Yk(op a b:Int):zh:=⟨[],[],(0,0),[(op,a,b)],0,0,[]⟩
def qW(m:za)(op a b:Int):za:={m with methods:=m.methods++[Yk op a b]}
theorem q1b(m:za)(op a b:Int):(qW m op a b).methods.length=m.methods.length+1:=by simp[qW]
theorem qe9{m:za}{op a b:Int}{t:Nat}(h:t<m.methods.length):zw (qW m op a b) (t:Int)=zw m (t:Int):=by
 unfold zw qW;dsimp only;rw[Xi,XN h]
theorem qnh(m:za)(op a b:Int):zw (qW m op a b) (m.methods.length:Int)=Yk op a b:=by
 unfold zw qW;dsimp only;rw[Xi,XP (zn _),Nat.sub_self];rfl
theorem q84(m:za)(op a b x y z:Int):qp (qW m op a b) x y z=qp m x y z:=rfl
theorem q9k{m:za}(L:List Int):(∀t ∈L,(zw m t).pot≤jb m L)∧0≤jb m L∧(jb m L=0∨∃t ∈L,(zw m t).pot=jb m L):=by
 have H:∀(L:List Int) (p:Int),(∀t ∈L,(zw m t).pot≤L.foldl (jZ m) p)∧p≤L.foldl (jZ m) p∧(L.foldl (jZ m) p=p∨∃t ∈L,(zw m t).pot=L.foldl (jZ m) p):=by
  intro L
  induction L with
  |nil=>intro p;exact⟨(fun t ht=>nomatch ht),XE _,.inl rfl⟩
  |cons a L ih=>
   intro p;obtain⟨h1,h2,h3⟩:=ih (jZ m p a);have hp:p≤jZ m p a∧(zw m a).pot≤jZ m p a∧(jZ m p a=p∨jZ m p a=(zw m a).pot):=by
    unfold jZ;split<;>omega
   rw[List.foldl_cons];refine⟨fun t ht=> ?_,by omega,?_⟩
   ·rcases XA.mp ht with rfl|ht
    ·omega
    ·exact h1 t ht
   ·rcases h3 with h3|⟨t,ht,h3⟩
    ·rcases hp.2.2 with h4|h4
     ·exact .inl (h3.trans h4)
     ·exact .inr ⟨a,XD,by rw[h3,h4]⟩
    ·exact .inr ⟨t,XF _ ht,h3⟩
 exact H L 0
theorem qgf{m x:za}{L M:List Int}(h1:∀t ∈L,t ∈M)(h2:∀t ∈M,t ∈L)(hp:∀t ∈L,(zw x t).pot=(zw m t).pot):jb x L=jb m M:=by
 obtain⟨a1,a2,a3⟩:=q9k (m:=x) L;obtain⟨b1,b2,b3⟩:=q9k (m:=m) M;refine Int.le_antisymm ?_ ?_
 ·rcases a3 with a3|⟨t,ht,a3⟩
  ·omega
  ·have:=b1 t (h1 t ht);have:=hp t ht;omega
 ·rcases b3 with b3|⟨t,ht,b3⟩
  ·omega
  ·have:=a1 t (h2 t ht);have:=hp t (h2 t ht);omega
theorem q2g{m:za}{op a b:Int}(ht:∀t ∈qp m op a b,0≤t∧t<m.methods.length)(g:Int):g ∈jJ (qW m op a b) (m.methods.length:Int)↔g ∈qp m op a b:=by
 unfold jJ;rw[Xb ⟨by omega,by rw[q1b];omega⟩,qnh,q1b];unfold Yl;rw[XW];constructor
 ·rintro⟨k,hk,rfl⟩;rw[List.mem_filter]at hk;have:=hk.2;simp[Ja,zX,Yk,q84]at this;first|exact this|exact Xy this
 ·intro hg;obtain⟨h0,h1⟩:=ht g hg;refine⟨g.toNat,?_,by omega⟩;rw[List.mem_filter,XR];refine⟨by omega,?_⟩;rw[show((g.toNat:Nat):Int)=g by omega];simp[Ja,zX,Yk,q84];first|exact hg|exact Xm hg
theorem qng{m:za}{op a b:Int}(ht:∀t ∈qp m op a b,0≤t∧t<m.methods.length):jb (qW m op a b) (jJ (qW m op a b) (m.methods.length:Int))=jb m (qp m op a b):=
 qgf (fun t h=>(q2g ht t).mp h) (fun t h=>(q2g ht t).mpr h) fun t h=>by
  obtain⟨h0,h1⟩:=ht t ((q2g ht t).mp h);obtain⟨k,rfl⟩:=Xq h0;rw[qe9 (by omega)]
theorem qbq:(Tryz.prog.info? 53).map (fun i=>(i.zero.map (fun z=>z.cells.size),i.size,i.bytes))=some (some 8,8,128):=by kernel_rfl
theorem q9x{P:Program}{t:TypeId}{k b:Nat}(h:(P.info? t).map (fun i=>(i.zero.map (fun z=>z.cells.size),i.size,i.bytes))=some (some k,k,b)):∃i z,P.info? t=some i∧i.zero=some z∧z.cells.size=k∧i.size=k∧i.bytes=b:=by
 cases hi:P.info? t with
 |none=>rw[hi]at h;simp at h
 |some i=>
  rw[hi]at h;simp only[Option.map_some,Option.some.injEq,Prod.mk.injEq]at h;cases hz:i.zero with
  |none=>rw[hz]at h;simp at h
  |some z=>rw[hz]at h;simp at h;exact⟨i,z,rfl,hz,h.1,h.2.1,h.2.2⟩
def qfg(zs:List (zh×qx))(n:Nat)(w:World)(e:Ending)(w':World):Prop:=∃gi ci,e= .returned (.slice (some ⟨gi,0,none⟩) n ci)∧w'.ownsRow w.heap.size 53 8 (.slice (some ⟨gi,0,none⟩) n ci) n (kj zs)∧Below w.heap.size w w'
theorem qjn(zs:List (zh×qx))(n:Nat)(ad:Addr)(c B:Nat)(w:World)(hn:zs.length=n)(h:zq w B (some ad) (kj zs))(hB:B≤w.heap.size)(h0:0<n)(hl:n≤1048576):
  Calls Tryz.prog 201 #[.slice (some ad) n c] w (qfg zs n w):=by
 have hq:=fun w=>Lib.run_eql_slice_nil (P:=Tryz.prog) w 25 53 (some ad) n c 0 0 Tryz.underlying25;obtain⟨ti,z0,hti,ht0,ht1,ht2,ht3⟩:=q9x qbq;have HXE:Hid (Below w.heap.size w (w.alloc (.cells #[] 53))):=zH ((zb _ _).alloc (zn _) _);have HT:=zH (h.below_to HXE.out hB);have HN:=zH hn;clear h hn;go_enter Tryz.func201,Tryz.ntmps201;go_wp2_with(at_builtin;go_loud (refine Zj rfl _ _ 25 rfl w.heap.size 53 ti z0 8 128 Tryz.underlying25 hti ht0 ht2 ht3 ht1 (by decide) _ 0 [] rfl (YE w 53 8) (some ad) n c _ (kj zs) (by rw[qsm,HN.out]) rfl HT.out (qsl _) (by unfold maxLen;omega) (by omega) (by simp) ?_);intro v6 w6 hown hgrow;have HX6:=zH (jV HXE.out (YE w 53 8) (by simp) hgrow);have HO6:Hid (w6.ownsRow w.heap.size 53 8 v6 n (kj zs)):=zH (by simpa using hown);clear hown hgrow)
 go_ret;rcases Zk HO6.out with⟨_,hn⟩|⟨g,ca,rfl,_,_⟩
 ·omega
 ·exact⟨g,ca,rfl,HO6.out,HX6.out⟩
theorem VM{zs:List (zh×qx)}{n:Nat}{ad:Addr}{c B:Nat}{w0 w:World}(hn:Hid (zs.length=n))(h:Hid (zq w0 B (some ad) (kj zs)))(HX:Hid (Below w0.heap.size w0 w))(hB:Hid (B≤w0.heap.size))(h0:Hid (0<n))(hl:Hid (n≤1048576)):
  Calls Tryz.prog 201 #[.slice (some ad) n c] w (qfg zs n w):=
 qjn zs n ad c B w hn.out (h.out.below_to HX.out hB.out) (Xd hB.out HX.out.size) h0.out hl.out
theorem qkk:(Tryz.prog.info? 101).map (fun i=>(i.zero,i.size,i.bytes))=some (some (.agg #[.slice none 0 0,.int .i64 0]),2,32):=by kernel_rfl
def Qn(n g:Nat)(most:Int):List Value:=[.slice (some ⟨g,0,none⟩) n n,.int .i64 most]
def QE(n:Nat):List Nat→List Inq→List Value
 |g::gs,q::L=>Qn n g q.2++QE n gs L
 |_,_=> []
theorem qbp{n g:Nat}{q:Inq}:∀{gs:List Nat} {L:List Inq},gs.length=L.length→QE n (gs++[g]) (L++[q])=QE n gs L++Qn n g q.2
 | [],[],_=>by show Qn n g q.2++[]=_;rw[List.append_nil];rfl
 |a::gs,b::L,h=>by
  show Qn n a b.2++QE n (gs++[g]) (L++[q])=(Qn n a b.2++QE n gs L)++Qn n g q.2;rw[qbp (by simpa using h),Xu]
 | [],_::_,h=>by simp at h
 |_::_,[],h=>by simp at h
theorem qem{n:Nat}:∀{gs:List Nat} {L:List Inq} {i g:Nat} {q:Inq},gs.length=L.length→gs[i]? =some g→L[i]? =some q→(QE n gs L)[i*2]? =some (.slice (some ⟨g,0,none⟩) n n)∧(QE n gs L)[i*2+1]? =some (.int .i64 q.2)
 |a::gs,b::L,0,g,q,_,hg,hq=>by
  simp at hg hq;subst hg;subst hq;exact⟨rfl,rfl⟩
 |a::gs,b::L,i+1,g,q,h,hg,hq=>by
  have:=qem (n:=n) (gs:=gs) (L:=L) (i:=i) (g:=g) (q:=q) (by simpa using h) (by simpa using hg) (by simpa using hq)
  rw[show(i+1)*2=i*2+2 by omega];exact this
 | [],_,i,g,q,_,hg,_=>by simp at hg
 |_::_,[],i,g,q,h,_,_=>by simp at h
structure jQ(w:World)(B:Nat)(v:Value)(n:Nat)(gs:List Nat)(L:List Inq):Prop where
 len:gs.length=L.length
 row:w.ownsRow B 101 2 v L.length (QE n gs L)
 co:∀(i g:Nat) (q:Inq),gs[i]? =some g→L[i]? =some q→B≤g∧q.1.length=n∧qg w g q.1
section
variable{w w':World}{B n:Nat}{v:Value}{gs:List Nat}{L:List Inq}
theorem jQ.keep(h:jQ w B v n gs L)(hb:Below w.heap.size w w'):jQ w' B v n gs L:=
 ⟨h.len,zT h.row hb (zL h.row),fun i g q hg hq=>by
  obtain⟨h1,h2,h3⟩:=h.co i g q hg hq;exact⟨h1,h2,h3.keep hb⟩⟩
theorem jQ.snoc(h:jQ w B v n gs L){o:Obj}{g9 c9 g:Nat}{q:Inq}{w9:World}(hg:B≤g∧qg w g q.1)(hq:q.1.length=n)(hown:w9.ownsRow B 101 2 (.slice (some ⟨g9,0,none⟩) (L.length+1) c9) (L.length+1) (QE n gs L++Qn n g q.2))(hgrow:(w.alloc o).grownBy w9 v.ownBlock):
  jQ w9 B (.slice (some ⟨g9,0,none⟩) (L.length+1) c9) n (gs++[g]) (L++[q]):=by
 have hne:∀{x:Nat} {l:List Int},qg w x l→v.ownBlock≠some x:=fun {x l} hx e=>by
  rcases h.row.2 with⟨hv,_⟩|⟨g',cap,cur,hv,_,hh,_⟩
  ·rw[hv]at e;simp[Value.ownBlock]at e
  ·rw[hv]at e;have:g'=x:=by simpa[Value.ownBlock]using e
   subst this;unfold qg zd at hx;rw[hx]at hh;injection hh with hh;injection hh with _ h2 _;exact absurd h2 (by decide)
 have hk:∀{x:Nat} {l:List Int},qg w x l→qg w9 x l:=fun {x l} hx=>by
  have hlt:=zd.lt hx;have h1:(w.alloc o).heap[x]? =w.heap[x]? :=Below.heap_alloc w o x hlt;exact((hgrow.block x (by simp;omega) (fun e=>hne hx e.symm)).trans h1).trans hx
 refine⟨by rw[Xe,Xe,h.len];rfl,?_,fun i a b ha hb=> ?_⟩
 ·rw[qbp h.len,Xe];exact hown
 ·rcases Xk i L.length with r|r
  ·rw[XN (by rw[h.len];exact r)]at ha;rw[XN r]at hb;obtain⟨h1,h2,h3⟩:=h.co i a b ha hb;exact⟨h1,h2,hk h3⟩
  ·have hi:i<(L++[q]).length:=(XM.mp hb).1;have:i=L.length:=by simp at hi;omega
   subst this;rw[XP (by rw[h.len];exact zn _)]at ha;rw[XP (zn _)]at hb;simp[h.len]at ha hb;subst ha;subst hb;exact⟨hg.1,hq,hk hg.2⟩
theorem jQ.app{g0 c0 nn:Nat}(h:jQ w B (.slice (some ⟨g0,0,none⟩) nn c0) n gs L)(hN:L.length=nn){o:Obj}{g9 c9 g:Nat}{q:Inq}{w9:World}(hg:B≤g∧qg w g q.1)(hq:q.1.length=n)(hown:w9.ownsRow B 101 2 (.slice (some ⟨g9,0,none⟩) (nn+1) c9) (nn+1) (QE n gs L++Qn n g q.2))(hgrow:(w.alloc o).grownBy w9 (Value.slice (some ⟨g0,0,none⟩) nn c0).ownBlock):
  jQ w9 B (.slice (some ⟨g9,0,none⟩) (nn+1) c9) n (gs++[g]) (L++[q]):=by
 subst hN;exact h.snoc hg hq hown hgrow
theorem jQ.row'{v:Value}{nn:Nat}(h:jQ w B v n gs L)(hN:L.length=nn):w.ownsRow B 101 2 v nn (QE n gs L):=by
 subst hN;exact h.row
theorem qsx(n g:Nat)(most:Int):∀u ∈Qn n g most,u.oneCell'=true:=fun u hu=>by
 unfold Qn at hu;simp at hu;rcases hu with rfl|rfl<;>rfl
theorem qv2(w:World)(n g:Nat)(most:Int):∀(j:Nat) (u:Value),(Qn n g most)[j]? =some u→(w.alloc (.cells #[.slice (some ⟨g,0,none⟩) n n,.int .i64 most] 101)).cell? ((⟨w.heap.size,0,none⟩:Addr).add j)=some u:=fun j u hj=>by
 have hc:=qr w [.slice (some ⟨g,0,none⟩) n n,.int .i64 most] 101;have e:(⟨w.heap.size,0,none⟩:Addr).add j=⟨w.heap.size,j,none⟩:=by unfold Addr.add;split<;>simp_all
 rw[e];exact hc j u hj
theorem jQ.one{g:Nat}{q:Inq}(hg:B≤g∧qg w g q.1)(hq:q.1.length=n)(hB:B≤w.heap.size):
  jQ (w.alloc (.cells #[.slice (some ⟨g,0,none⟩) n n,.int .i64 q.2] 101)) B (.slice (some ⟨w.heap.size,0,none⟩) 1 1) n [g] [q]:=
 ⟨rfl,⟨rfl,.inr ⟨w.heap.size,1,#[.slice (some ⟨g,0,none⟩) n n,.int .i64 q.2],rfl,hB,Xw _ _,zn _,by unfold maxLen;omega,rfl,rfl⟩⟩,fun i a b ha hb=>by
  match i,ha,hb with
  |0,ha,hb=>
   simp at ha hb;subst ha;subst hb;exact⟨hg.1,hq,hg.2.keep ((zb _ _).alloc (zn _) _)⟩
  |i+1,ha,hb=>simp at ha⟩
theorem jQ.at_{g' c:Nat}(h:jQ w B (.slice (some ⟨g',0,none⟩) L.length c) n gs L){i:Nat}{q:Inq}(hq:L[i]? =some q):∃g,w.cell? ⟨g',i*2,none⟩=some (.slice (some ⟨g,0,none⟩) n n)∧w.cell? ⟨g',i*2+1,none⟩=some (.int .i64 q.2)∧qg w g q.1∧q.1.length=n∧g'<w.heap.size∧g<w.heap.size:=by
 have hi:i<gs.length:=by rw[h.len];exact(XM.mp hq).1
 obtain⟨e0,e1⟩:=qem (n:=n) h.len (Xc hi) hq;obtain⟨h1,h2,h3⟩:=h.co i _ q (Xc hi) hq;obtain⟨hb,hc⟩:=YO h.row;exact⟨gs[i],(hc _ _ e0).1,(hc _ _ e1).1,h3,h2,(hc _ _ e0).2,zd.lt h3⟩
end
end Go.Proofs.YtcmiljnbmgkdnaaGreat
