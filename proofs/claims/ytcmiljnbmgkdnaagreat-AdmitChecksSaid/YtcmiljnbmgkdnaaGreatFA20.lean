import Derived.Test.YtcmiljnbmgkdnaaGreatFA19
import Derived.Test.YtcmiljnbmgkdnaaGreatFA08
namespace Go.Proofs.YtcmiljnbmgkdnaaGreat
set_option maxRecDepth 100000
set_option linter.unusedVariables false
set_option linter.unusedSimpArgs false
open Go.ChangeShapes Go.WideShapes Go.ChangeAt Go.RowKit
theorem qfh(m:za)(op a b:Int)(h:zg)(w:World)(H:zi w w.heap.size h m)(hn:m.classes.length≤1000):
  Calls Tryz.prog 47 #[zk h m,zz op a b] w (vJ (qk m op a b) w):=by
 by_cases h31:op=31
 ·subst h31;exact qf2 m a b h w
 by_cases h32:op=32
 ·subst h32;exact qf0 m a b h w H hn
 exact qf1 m op a b h31 h32 h w
theorem q3j{m:za}{op a b:Int}{h:zg}{w0 w:World}{L:List Int}(HI:Hid (zi w0 w0.heap.size h m))(HX:Hid (Below w0.heap.size w0 w))(HN:Hid (m.classes.length≤1000))(HL:Hid (qk m op a b=L)):
  Calls Tryz.prog 47 #[zk h m,zz op a b] w (vJ L w):=by
 have H:=qfh m op a b h w (HI.out.now HX.out) HN.out;rw[HL.out]at H;exact H
def ZN(m:za)(x:zf)(g:Int):Bool:= !(x.code.all fun i=> !zR (qk m i.1 i.2.1 i.2.2) g)
theorem q3e(m:za)(op a b:Int)(hn:m.classes.length≤1000):(qk m op a b).length≤1000:=by
 unfold qk;by_cases h1:op=31
 ·rw[Xb h1];exact(show 1≤1000 by decide)
 rw[Xa h1];by_cases h2:op=32
 ·rw[Xb h2];exact Xg (q3h _ _ _) (Xg (Vg _ _ _) hn)
 ·rw[Xa h2];exact Xl _
set_option maxHeartbeats 3200000 in
theorem qid(m:za)(x:zf)(f:Nat)(g:Int)(h:zg)(w:World)(H:zi w w.heap.size h m)(hg:m.methods[f]? =some x)(hn:m.classes.length≤1000)(ha:x.code.length≤1048576):
  Calls Tryz.prog 45 #[zk h m,.int .i64 f,.int .i64 g] w fun e w'=>e= .returned (.bool (ZN m x g))∧Below w.heap.size w w':=by
 have hk:f<m.methods.length:=(Xw.mp hg).1;have hx:m.methods[f]=x:=(Xw.mp hg).2;have hle:=H.methods.le;have hcap:=H.methods.cap;obtain⟨ad,hx',eA,hab,hin,hc⟩:=jJ H hk;rw[hx]at hin hc;obtain⟨A0,A1,A2,A3,A4,k0,k1,k2,k3,k4⟩:=h;dsimp only at eA hcap hle;subst eA;have HN:=zH hn;have HW:=zH ((zb w.heap.size w).alloc (zn _) (zo ⟨A0,A1,A2,some ad,A4,k0,k1,k2,k3,k4⟩ m));have HIM:=zH (H.now HW.out);have HBX:=zH (zX w ⟨A0,A1,A2,some ad,A4,k0,k1,k2,k3,k4⟩ m);have HZ:Hid (w.heap.size<(w.alloc (zo ⟨A0,A1,A2,some ad,A4,k0,k1,k2,k3,k4⟩ m)).heap.size):=zH (by simp);have HAB:Hid ((ad.add (f*8)).block<(w.alloc (zo ⟨A0,A1,A2,some ad,A4,k0,k1,k2,k3,k4⟩ m)).heap.size):=zH (by rw[zp];simp;omega);have HMC:=zH (hc.keep HW.out (by rw[zp];exact hab));have HIN:=zH (hin.now HW.out);have ccap:=hin.code.cap;have cle:=hin.code.le;have HCE:=zH (show ZN m x g= !(x.code.all fun i=> !zR (qk m i.1 i.2.1 i.2.2) g)from rfl);clear H hg hin hc hn hab hx;go_enter Tryz.func45,Tryz.ntmps45;go_upto_region 1 with fail
 generalize w.alloc (zo ⟨A0,A1,A2,some ad,A4,k0,k1,k2,k3,k4⟩ m)=w1 at*
 go_wp2_with fail
 go_loopw [7] (fun i wr=>∃k:Nat,k≤x.code.length∧i= .int .i64 k∧Hid (∀i ∈x.code.take k,(!zR (qk m i.1 i.2.1 i.2.2) g)=true)∧Hid (Below w1.heap.size w1 wr)) (fun i _=>x.code.length - (intOf i).toNat)
 case atStart=>exact⟨0,Xl _,rfl,zH (by simp),zH (zb _ _)⟩
 case round=>
  obtain⟨k,hkl,rfl,HNO,HX⟩:=hrel;obtain⟨q0,q1,q2,q3,q4,q5,q6⟩:=HBX.out.keep HX.out HZ.out;dsimp only at q0 q1 q2 q3 q4 q5 q6;have c4:=(HMC.out.keep HX.out HAB.out).c4;by_cases hlt:k<x.code.length
  ·obtain⟨ac,eC,hac,i0,i1,i2⟩:=HIN.out.code.row.at_ hlt;have HBA:=zH (fun q=>vb (f:=fun i:Int×Int×Int=> !zR (qk m i.1 i.2.1 i.2.2) g) hlt q);have HYE:=zH (fun q=>jT (f:=fun i:Int×Int×Int=> !zR (qk m i.1 i.2.1 i.2.2) g) hlt HNO.out q);generalize x.code[k]=ins at*
   obtain⟨op,a,b⟩:=ins;dsimp only at i0 i1 i2 HBA HYE;rw[eC]at c4;have HR:Hid (∀W,Below w1.heap.size w1 W→W.cell? (ac.add (k*3))=some (.int .i64 op)∧W.cell? (zc (ac.add (k*3)) 1)=some (.int .i64 a)∧W.cell? (zc (ac.add (k*3)) 2)=some (.int .i64 b)):=zH (fun W hW=>⟨(hW.cell (p:=ac.add (k*3)) (by rw[zp];exact hac)).trans i0,(hW.cell (p:=zc (ac.add (k*3)) 1) (by show(ac.add (k*3)).block<_;rw[zp];exact hac)).trans i1,(hW.cell (p:=zc (ac.add (k*3)) 2) (by show(ac.add (k*3)).block<_;rw[zp];exact hac)).trans i2⟩);have HC4:Hid (∀W,Below w1.heap.size w1 W→W.cell? ⟨(ad.add (f*8)).block,(ad.add (f*8)).off+4,none⟩=some (.slice (some ac) x.code.length hx'.k4)):=zH (fun W hW=>by have q:=(HMC.out.keep hW HAB.out).c4;rw[eC]at q;exact q);obtain⟨j0,j1,j2⟩:=HR.out _ HX.out;clear i0 i1 i2 eC;obtain⟨L,hL⟩:∃L,qk m op a b=L:=⟨_,rfl⟩
   have hLl:L.length≤9223372036854775807:=by have:=q3e m op a b HN.out;rw[hL]at this;omega
   have HL:=zH hL;rw[hL]at HBA HYE;clear hL;have HXd:=zH HX.out.drew;obtain⟨r,hr⟩:∃r,zR L g=r:=⟨_,rfl⟩
   have HIR:=zH hr;cases r
   ·have HR2:=zH (HYE.out (by rw[hr];rfl));clear hr;go_wp2_with fail
    go_region_held3 (fun w'=>w'.cell? ⟨w.heap.size,0,none⟩=some (.slice A0 m.classes.length k0)∧w'.cell? ⟨w.heap.size,1,none⟩=some (.slice A1 m.statics.length k1)∧w'.cell? ⟨w.heap.size,2,none⟩=some (.slice A2 m.ints.length k2)∧w'.cell? ⟨w.heap.size,3,none⟩=some (.slice (some ad) m.methods.length k3)∧w'.cell? ⟨w.heap.size,4,none⟩=some (.slice A4 m.entries.length k4)∧w'.cell? ⟨w.heap.size,5,none⟩=some (.int .i64 m.stack)∧w'.cell? ⟨w.heap.size,6,none⟩=some (.int .i64 m.heap)∧w'.cell? ⟨(ad.add (f*8)).block,(ad.add (f*8)).off+4,none⟩=some (.slice (some ac) x.code.length hx'.k4)∧w'.cell? (ac.add (k*3))=some (.int .i64 op)∧w'.cell? (zc (ac.add (k*3)) 1)=some (.int .i64 a)∧w'.cell? (zc (ac.add (k*3)) 2)=some (.int .i64 b)) (first|exact⟨q0,q1,q2,q3,q4,q5,q6,c4,j0,j1,j2⟩) (first|(go_at_call 47;(with_reducible refine(q3j HIM HXd HN HL).mono ?_);rintro e w2 ⟨v2,rfl,ho,hb⟩;have HX2:=zl HXd hb;obtain⟨A9,c9,rfl,hl9,_,_⟩:=ku ho;have HL9:=zH hl9;obtain⟨q0,q1,q2,q3,q4,q5,q6⟩:=HBX.out.keep HX2.out HZ.out;dsimp only at q0 q1 q2 q3 q4 q5 q6;have c4:=HC4.out _ HX2.out;obtain⟨j0,j1,j2⟩:=HR.out _ HX2.out;clear ho hb hl9)|(go_at_call 66;(with_reducible refine(Ju _ _ _ _ _ _ hLl HL9.out).mono ?_);rintro e w' ⟨he,rfl⟩;rw[HIR.out]at he;subst he))
    go_wp2_with fail
    go_roundw;case rel=>exact⟨k+1,by omega,by go_num,HR2,HX2⟩
    case measure=>simp[intOf];omega
   ·have HE:=zH (HCE.out.trans (by rw[HBA.out (by rw[hr];rfl)];rfl:_=true));clear hr;go_wp2_with fail
    go_region_held3 (fun w'=>w'.cell? ⟨w.heap.size,0,none⟩=some (.slice A0 m.classes.length k0)∧w'.cell? ⟨w.heap.size,1,none⟩=some (.slice A1 m.statics.length k1)∧w'.cell? ⟨w.heap.size,2,none⟩=some (.slice A2 m.ints.length k2)∧w'.cell? ⟨w.heap.size,3,none⟩=some (.slice (some ad) m.methods.length k3)∧w'.cell? ⟨w.heap.size,4,none⟩=some (.slice A4 m.entries.length k4)∧w'.cell? ⟨w.heap.size,5,none⟩=some (.int .i64 m.stack)∧w'.cell? ⟨w.heap.size,6,none⟩=some (.int .i64 m.heap)∧w'.cell? ⟨(ad.add (f*8)).block,(ad.add (f*8)).off+4,none⟩=some (.slice (some ac) x.code.length hx'.k4)∧w'.cell? (ac.add (k*3))=some (.int .i64 op)∧w'.cell? (zc (ac.add (k*3)) 1)=some (.int .i64 a)∧w'.cell? (zc (ac.add (k*3)) 2)=some (.int .i64 b)) (first|exact⟨q0,q1,q2,q3,q4,q5,q6,c4,j0,j1,j2⟩) (first|(go_at_call 47;(with_reducible refine(q3j HIM HXd HN HL).mono ?_);rintro e w2 ⟨v2,rfl,ho,hb⟩;have HX2:=zl HXd hb;obtain⟨A9,c9,rfl,hl9,_,_⟩:=ku ho;have HL9:=zH hl9;obtain⟨q0,q1,q2,q3,q4,q5,q6⟩:=HBX.out.keep HX2.out HZ.out;dsimp only at q0 q1 q2 q3 q4 q5 q6;have c4:=HC4.out _ HX2.out;obtain⟨j0,j1,j2⟩:=HR.out _ HX2.out;clear ho hb hl9)|(go_at_call 66;(with_reducible refine(Ju _ _ _ _ _ _ hLl HL9.out).mono ?_);rintro e w' ⟨he,rfl⟩;rw[HIR.out]at he;subst he))
    go_wp2_with fail
    go_ret;exact⟨by rw[HE.out];rfl,HW.out.trans (HX2.out.mono HW.out.size)⟩
  ·obtain rfl:k=x.code.length:=by omega
   have HE:=zH (HCE.out.trans (by rw[vc HNO.out (zn _)];rfl:_=false));go_wp2_with fail
   go_ret;exact⟨by rw[HE.out];rfl,HW.out.trans (HX.out.mono HW.out.size)⟩
theorem q4y:(Tryz.prog.info? 26).map (fun i=>(i.zero,i.size,i.bytes))=some (some (.slice none 0 0),1,24):=by kernel_rfl
theorem q1z{m:za}{x:zf}{f:Nat}{g:Int}{h:zg}{w0 w:World}{r:Bool}(HI:Hid (zi w0 w0.heap.size h m))(HX:Hid (Below w0.heap.size w0 w))(HG:Hid (m.methods[f]? =some x))(hn:m.classes.length≤1000)(ha:x.code.length≤1048576)(HR:Hid (ZN m x g=r)):
  Calls Tryz.prog 45 #[zk h m,.int .i64 f,.int .i64 g] w fun e w'=>e= .returned (.bool r)∧Below w.heap.size w w':=by
 have H:=qid m x f g h w (HI.out.now HX.out) HG.out hn ha;rw[HR.out]at H;exact H
set_option maxHeartbeats 3200000 in
theorem qib(m:za)(h:zg)(w:World)(H:zi w w.heap.size h m)(hn:m.classes.length≤1000)(hml:m.methods.length≤1000)(hc:∀x ∈m.methods,x.code.length≤1048576):
  Calls Tryz.prog 19 #[zk h m] w fun e w'=>∃v xs,e= .returned v∧w'.ownsRow w.heap.size 26 1 v m.methods.length xs∧Below w.heap.size w w':=by
 obtain⟨i0,hi,hz0,hz1,hz2⟩:=qQ q4y;obtain⟨i1,hi1,hz01,hz11,hz21⟩:=qQ vD;have HW:=zH ((zb w.heap.size w).alloc (zn _) (zo h m));have HI:=zH (H.now HW.out);have HBX:=zH (zX w h m);have HZ:Hid (w.heap.size<(w.alloc (zo h m)).heap.size):=zH (by simp);have HCO:=zH hc;clear H hc;go_enter Tryz.func19,Tryz.ntmps19;go_upto_region 1 with fail
 generalize w.alloc (zo h m)=w1 at*
 go_wp2_with fail
 go_loopw [3,4] (fun v i wr=>∃(k:Nat) (xs:List Value),k≤m.methods.length∧i= .int .i64 k∧Hid (wr.ownsRow w1.heap.size 26 1 v k xs)∧Hid (Below w1.heap.size w1 wr)) (fun _ i _=>m.methods.length - (intOf i).toNat)
 case atStart=>exact⟨0,[],by omega,rfl,zH (Jn w1 _),zH ((zb _ _).alloc (zn _) _)⟩
 case round=>
  obtain⟨k,xs,hk,rfl,HO,HX⟩:=hrel;obtain⟨q0,q1,q2,q3,q4,q5,q6⟩:=HBX.out.keep HX.out HZ.out;have hsz:=HX.out.size;by_cases hlt:k<m.methods.length
  ·obtain⟨x,hx⟩:∃x,m.methods[k]? =some x:=⟨_,Xc hlt⟩
   have HG:=zH hx;have hxc:=HCO.out x (Xo hx);clear hx;go_wp2_with fail
   go_loopw [5,6] (fun l j wi=>∃(g:Nat) (ys:List Int),g≤m.methods.length∧j= .int .i64 g∧ys.length≤g∧Hid (wi.ownsRow wr.heap.size 3 1 l ys.length (ys.map (Value.int .i64)))∧Hid (Below wr.heap.size wr wi)) (fun _ j _=>m.methods.length - (intOf j).toNat)
   case atStart=>exact⟨0,[],by omega,rfl,zn _,zH (Jn wr _),zH ((zb _ _).alloc (zn _) _)⟩
   case round=>
    clear q0 q1 q2 q3 q4 q5 q6;obtain⟨g,ys,hg,rfl,hyl,HOi,HXi⟩:=hrel;have HX2:=zH (HX.out.trans (HXi.out.mono hsz));obtain⟨q0,q1,q2,q3,q4,q5,q6⟩:=HBX.out.keep HX2.out HZ.out;by_cases hgl:g<m.methods.length
    ·obtain⟨r,hr⟩:∃r,ZN m x (g:Int)=r:=⟨_,rfl⟩
     have HR:=zH hr;clear hr;cases r
     ·go_wp2_with(go_at_call 45;(with_reducible refine(q1z HI HX2 HG hn hxc HR).mono ?_);rintro e w4 ⟨rfl,hb⟩;have HO4:=zH (qo HOi.out hb (zZ HOi.out));have HX4:=zl HXi hb;clear hb)
      go_roundw;case rel=>exact⟨g+1,ys,by omega,by go_num,by omega,HO4,HX4⟩
      case measure=>simp[intOf];omega
     ·go_wp2_with(first
       |(go_at_call 45;(with_reducible refine(q1z HI HX2 HG hn hxc HR).mono ?_);rintro e w4 ⟨rfl,hb⟩;have HO4:=zH (qo HOi.out hb (zZ HOi.out));have HX4:=zl HXi hb;have hsz4:=HX4.out.size;clear hb)
       |(at_builtin;refine vt rfl _ _ 26 rfl _ 3 i1 (.int .i64 0) 1 8 Tryz.underlying26 hi1 hz01 hz11 hz21 rfl (by decide) _ ys.length (ys.map (Value.int .i64)) rfl (HO4.out.alloc _) (some ⟨w4.heap.size,0,none⟩) 1 1 _ [.int .i64 (g:Int)] rfl rfl (Jv w4 _ _) (Qq rfl) (by unfold maxLen;omega) (by omega) (by simp;omega) ?_;intro v6 w6 hown hgrow;have HX6:=zH (qN (HX4.out.alloc hsz4 _) (HO4.out.alloc _) (by simp;omega) hgrow);have HO6:=zH hown;clear hown hgrow))
      go_roundw;case rel=>exact⟨g+1,ys++[(g:Int)],by omega,by go_num,by simp;omega,zH (by simpa using HO6.out),HX6⟩
      case measure=>simp[intOf];omega
    ·obtain⟨Al,cl,rfl,hll,hl1,hl2⟩:=ku HOi.out;have HOo:=zH (qo HO.out HXi.out (zZ HO.out));have hsz2:=HX2.out.size;go_wp2_with(at_builtin;refine vt rfl _ _ 56 rfl w1.heap.size 26 i0 (.slice none 0 0) 1 24 Tryz.underlying56 hi hz0 hz1 hz2 rfl (by decide) _ k xs rfl (HOo.out.alloc _) (some ⟨wr.heap.size,0,none⟩) 1 1 _ [.slice Al ys.length cl] rfl rfl (Jv wr _ _) (Qq rfl) (by unfold maxLen;omega) (by omega) (by simp;omega) ?_;intro v6 w6 hown hgrow;have HX6:=zH (qN (HX2.out.alloc hsz2 _) (HOo.out.alloc _) (by simp;omega) hgrow);have HO6:=zH hown;clear hown hgrow)
     go_roundw;case rel=>exact⟨k+1,_,by omega,by go_num,HO6,HX6⟩
     case measure=>simp[intOf];omega
  ·go_wp2_with fail
   go_ret;have e:k=m.methods.length:=by omega
   exact⟨_,xs,rfl,jc (by rw[←e];exact HO.out) HW.out.size,HW.out.trans (HX.out.mono HW.out.size)⟩
def jF(m:za)(x:zf)(n:Nat):List Int:=((List.range n).filter (fun g:Nat=>ZN m x (g:Int))).map (fun g:Nat=>(g:Int))
theorem qmw{m:za}{x:zf}{n:Nat}(h:ZN m x (n:Int)=true):jF m x (n+1)=jF m x n++[(n:Int)]:=by
 unfold jF;rw[List.range_succ,List.filter_append,XX];simp[h]
theorem qqw{m:za}{x:zf}{n:Nat}(h:ZN m x (n:Int)=false):jF m x (n+1)=jF m x n:=by
 unfold jF;rw[List.range_succ,List.filter_append,XX];simp[h]
theorem qmx(m:za)(x:zf)(n:Nat):(jF m x n).length≤n:=by
 unfold jF;rw[Xi];exact Xg (List.length_filter_le _ _) (by rw[Wb];exact zn _)
def jv(m:za):List (List Int):=m.methods.map fun x=>jF m x m.methods.length
def VH(w:World)(v:Value)(A:Option Addr)(c:Nat)(L:List Int):Prop:=zd zq 1 w w.heap.size A c L∧Jf v A∧∀ad,A=some ad→ad.block<w.heap.size
def QH(w:World)(v:Value)(xs:List Value)(EL:List (List Int)):Prop:=
 xs.length=EL.length∧∀(i:Nat) (L:List Int),EL[i]? =some L→∃A c,xs[i]? =some (Value.slice A L.length c)∧VH w v A c L
theorem qg6{w w':World}{B C:Nat}{A:Option Addr}{c:Nat}{L:List Int}(h:zd zq 1 w B A c L)(hC:B≤C)(hk:∀ad,A=some ad→∀q:Addr,q.block=ad.block→w'.cell? q=w.cell? q):zd zq 1 w' C A c L:=
 ⟨h.le,h.cap,fun i x hi=>by
  obtain⟨ad,e,hb,hc⟩:=h.row i x hi;exact⟨ad,e,Xp hb hC,(hk ad e _ (zp _ _)).trans hc⟩⟩
theorem QH.nil(w:World)(v:Value):QH w v [] []:=⟨rfl,fun i L hi=>by simp at hi⟩
theorem QH.below{w w':World}{v:Value}{xs:List Value}{EL:List (List Int)}(h:QH w v xs EL)(hb:Below w.heap.size w w'):QH w' v xs EL:=
 ⟨h.1,fun i L hi=>by
  obtain⟨A,c,e,hs,ha,hl⟩:=h.2 i L hi;exact⟨A,c,e,(hs.below_to zq.keeps hb (zn _)).keep' zq.keeps hb.size (fun _ _=>rfl),ha,fun ad e=>Xp (hl ad e) hb.size⟩⟩
theorem VH.grown{w w3:World}{o:Obj}{v:Value}{L:List Int}{A:Option Addr}{c g9 n k:Nat}(h:VH w v A c L)(hg:(w.alloc o).grownBy w3 v.ownBlock)(hor:v.ownBlock=some g9∨g9=(w.alloc o).heap.size):
  VH w3 (.slice (some ⟨g9,0,none⟩) n k) A c L:=by
 obtain⟨hs,ha,hl⟩:=h;have hz:w.heap.size≤w3.heap.size:=Xg (by simp) hg.size;refine⟨qg6 hs hz fun ad e q hq=> ?_,q1q ha hl hor (by simp),fun ad e=>Xp (hl ad e) hz⟩;have hb:=hl ad e;have h1:w3.cell? q=(w.alloc o).cell? q:=X7 (hg.block _ (by rw[hq];simp;omega) (fun e'=>ha _ e'.symm ad e hq));rw[h1];exact((zb w.heap.size w).alloc (zn _) o).cell (by rw[hq];exact hb)
theorem QH.snoc{w w3:World}{o:Obj}{v:Value}{xs:List Value}{EL:List (List Int)}{L:List Int}{A:Option Addr}{c g9 n k:Nat}(h:QH w v xs EL)(hs:VH w v A c L)
  (hg:(w.alloc o).grownBy w3 v.ownBlock) (hor:v.ownBlock=some g9∨g9=(w.alloc o).heap.size):
  QH w3 (.slice (some ⟨g9,0,none⟩) n k) (xs++[.slice A L.length c]) (EL++[L]):=by
 refine⟨by rw[Xt,Xt,h.1];rfl,fun i M hi=> ?_⟩;rcases Xj i EL.length with q|q
 ·rw[XJ q]at hi;obtain⟨A',c',e,hs'⟩:=h.2 i M hi;exact⟨A',c',by rw[XJ (by rw[h.1];exact q)];exact e,hs'.grown hg hor⟩
 ·rw[XM q]at hi;have hiz:i - EL.length=0:=by
   rcases Wo (i - EL.length)with z|z
   ·exact z
   ·rw[Xu (by simp;omega)]at hi;cases hi
  rw[hiz]at hi;simp at hi;subst hi;exact⟨A,c,by rw[XM (by rw[h.1];exact q),h.1,hiz];rfl,hs.grown hg hor⟩
def RowsIs(EL:List (List Int))(w:World)(e:Ending)(w':World):Prop:=∃A c,e= .returned (.slice A EL.length c)∧zd (zG zq 1) 1 w' w'.heap.size A c EL∧Below w.heap.size w w'
theorem qsa{w:World}{B e n:Nat}{v:Value}{xs:List Value}{EL:List (List Int)}(ho:w.ownsRow B e 1 v n xs)(hn:n=EL.length)(h:QH w v xs EL):∃A c,v= .slice A EL.length c∧zd (zG zq 1) 1 w w.heap.size A c EL:=by
 subst hn;rcases kq ho with⟨rfl,hz⟩|⟨g,c,rfl,h1,h2⟩
 ·have:EL=[]:=XZ hz;subst this;exact⟨none,0,rfl,⟨zn _,by omega,qB.nil⟩⟩
 ·obtain⟨hb,hc⟩:=JQ ho;refine⟨_,c,rfl,h1,h2,fun i L hi=> ?_⟩;obtain⟨A,k,e1,hs,_,_⟩:=h.2 i L hi;obtain⟨c0,hg⟩:=hc i _ e1;refine⟨_,rfl,hg,A,k,?_,hs⟩;have ea:(Addr.add ⟨g,0,none⟩ (i*1))=⟨g,i,none⟩:=by
   unfold Addr.add;split
   ·rename_i h0;simp at h0;rw[h0]
   ·simp
  rw[ea];exact c0
set_option maxHeartbeats 3200000 in
theorem qgb(m:za)(h:zg)(w:World)(H:zi w w.heap.size h m)(hn:m.classes.length≤1000)(hml:m.methods.length≤1000)(hc:∀x ∈m.methods,x.code.length≤1048576):
  Calls Tryz.prog 19 #[zk h m] w (RowsIs (jv m) w):=by
 have hrow0:∀n v,jF m v n=jF m v n:=fun _ _=>rfl;clear hrow0;obtain⟨i0,hi,hz0,hz1,hz2⟩:=qQ q4y;obtain⟨i1,hi1,hz01,hz11,hz21⟩:=qQ vD;have HW:=zH ((zb w.heap.size w).alloc (zn _) (zo h m));have HI:=zH (H.now HW.out);have HBX:=zH (zX w h m);have HZ:Hid (w.heap.size<(w.alloc (zo h m)).heap.size):=zH (by simp);have HCO:=zH hc;clear H hc;go_enter Tryz.func19,Tryz.ntmps19;go_upto_region 1 with fail
 generalize w.alloc (zo h m)=w1 at*
 go_wp2_with fail
 go_loopw [3,4] (fun v i wr=>∃(k:Nat) (xs:List Value),k≤m.methods.length∧i= .int .i64 k∧Hid (wr.ownsRow w1.heap.size 26 1 v k xs)∧Hid (Below w1.heap.size w1 wr)∧Hid (QH wr v xs ((m.methods.take k).map fun x=>jF m x m.methods.length))) (fun _ i _=>m.methods.length - (intOf i).toNat)
 case atStart=>exact⟨0,[],by omega,rfl,zH (Jn w1 _),zH ((zb _ _).alloc (zn _) _),zH (QH.nil _ _)⟩
 case round=>
  obtain⟨k,xs,hk,rfl,HO,HX,HE⟩:=hrel;obtain⟨q0,q1,q2,q3,q4,q5,q6⟩:=HBX.out.keep HX.out HZ.out;have hsz:=HX.out.size;by_cases hlt:k<m.methods.length
  ·obtain⟨x,hx⟩:∃x,m.methods[k]? =some x:=⟨_,Xc hlt⟩
   have HG:=zH hx;have hxc:=HCO.out x (Xo hx);have HTK:Hid ((m.methods.take (k+1)).map (fun x=>jF m x m.methods.length)=(m.methods.take k).map (fun x=>jF m x m.methods.length)++[jF m x m.methods.length]):=zH (by rw[XA,hx,XX];rfl);clear hx;go_wp2_with fail
   go_loopw [5,6] (fun l j wi=>∃(g:Nat) (ys:List Int),g≤m.methods.length∧j= .int .i64 g∧Hid (ys=jF m x g)∧ys.length≤g∧Hid (wi.ownsRow wr.heap.size 3 1 l ys.length (ys.map (Value.int .i64)))∧Hid (Below wr.heap.size wr wi)) (fun _ j _=>m.methods.length - (intOf j).toNat)
   case atStart=>exact⟨0,[],by omega,rfl,zH rfl,zn _,zH (Jn wr _),zH ((zb _ _).alloc (zn _) _)⟩
   case round=>
    clear q0 q1 q2 q3 q4 q5 q6;obtain⟨g,ys,hg,rfl,HYS,hyl,HOi,HXi⟩:=hrel;have HX2:=zH (HX.out.trans (HXi.out.mono hsz));obtain⟨q0,q1,q2,q3,q4,q5,q6⟩:=HBX.out.keep HX2.out HZ.out;by_cases hgl:g<m.methods.length
    ·obtain⟨r,hr⟩:∃r,ZN m x (g:Int)=r:=⟨_,rfl⟩
     have HR:=zH hr;have HYN:Hid (r=false→ys=jF m x (g+1)):=zH (fun q=>by rw[qqw (by rw[hr,q])];exact HYS.out);have HYY:Hid (r=true→ys++[(g:Int)]=jF m x (g+1)):=zH (fun q=>by rw[qmw (by rw[hr,q]),←HYS.out]);clear hr;cases r
     ·go_wp2_with(go_at_call 45;(with_reducible refine(q1z HI HX2 HG hn hxc HR).mono ?_);rintro e w4 ⟨rfl,hb⟩;have HO4:=zH (qo HOi.out hb (zZ HOi.out));have HX4:=zl HXi hb;clear hb)
      go_roundw;case rel=>exact⟨g+1,ys,by omega,by go_num,zH (HYN.out (by simp)),by omega,HO4,HX4⟩
      case measure=>simp[intOf];omega
     ·go_wp2_with(first
       |(go_at_call 45;(with_reducible refine(q1z HI HX2 HG hn hxc HR).mono ?_);rintro e w4 ⟨rfl,hb⟩;have HO4:=zH (qo HOi.out hb (zZ HOi.out));have HX4:=zl HXi hb;have hsz4:=HX4.out.size;clear hb)
       |(at_builtin;refine vt rfl _ _ 26 rfl _ 3 i1 (.int .i64 0) 1 8 Tryz.underlying26 hi1 hz01 hz11 hz21 rfl (by decide) _ ys.length (ys.map (Value.int .i64)) rfl (HO4.out.alloc _) (some ⟨w4.heap.size,0,none⟩) 1 1 _ [.int .i64 (g:Int)] rfl rfl (Jv w4 _ _) (Qq rfl) (by unfold maxLen;omega) (by omega) (by simp;omega) ?_;intro v6 w6 hown hgrow;have HX6:=zH (qN (HX4.out.alloc hsz4 _) (HO4.out.alloc _) (by simp;omega) hgrow);have HO6:=zH hown;clear hown hgrow))
      go_roundw;case rel=>exact⟨g+1,ys++[(g:Int)],by omega,by go_num,zH (HYY.out (by simp)),by simp;omega,zH (by simpa using HO6.out),HX6⟩
      case measure=>simp[intOf];omega
    ·obtain⟨Al,cl,rfl,hll,hl1,hl2⟩:=ku HOi.out;have HOo:=zH (qo HO.out HXi.out (zZ HO.out));have hsz2:=HX2.out.size;have HYE:Hid (ys=jF m x m.methods.length):=zH (by rw[HYS.out,show g=m.methods.length by omega]);have HEo:=zH (HE.out.below HXi.out);have hly:∀ad,Al=some ad→ad.block<wr.heap.size:=fun ad e=>zZ HOi.out _ (by rw[e];rfl);have HEA:Hid (VH wr u3 Al cl ys):=zH ⟨⟨hl1,hl2,fun i z hi=>by
      obtain⟨ad,e,hb,hc⟩:=hll i (.int .i64 z) (by rw[Xx,hi];rfl);exact⟨ad,e,hb,by rw[Xq];exact hc⟩⟩,fun q hq ad e=>by
       have h1:=zZ HO.out q hq;have h2:=(HOi.out.lt ad.block (by rw[e];rfl)).1;omega,hly⟩
     clear hly;go_wp2_with(at_builtin;refine wpList_append_lies _ rfl _ _ 56 rfl w1.heap.size 26 i0 (.slice none 0 0) 1 24 Tryz.underlying56 hi hz0 hz1 hz2 rfl (by decide) _ k xs rfl (HOo.out.alloc _) ⟨wr.heap.size,0,none⟩ 1 1 [.slice Al ys.length cl] rfl rfl (fun j u hj=>(by obtain⟨ad',e',_,h'⟩:=Jv wr (.slice Al ys.length cl) 26 j u hj;injection e' with e';subst e';exact h')) (Qq rfl) (by decide) (by unfold maxLen;omega) (by omega) (by simp;omega) _ rfl ?_;intro g9 c9 w6 hown hgrow hor hlt9;have HX6:=zH (qN (HX2.out.alloc hsz2 _) (HOo.out.alloc _) (by simp;omega) hgrow);have HO6:=zH hown;have HE6:=zH (HEo.out.snoc (n:=k+1) (k:=c9) HEA.out hgrow hor);clear hown hgrow hor)
     go_roundw;case rel=>exact⟨k+1,_,by omega,by go_num,HO6,HX6,zH (by rw[HTK.out,←HYE.out];exact HE6.out)⟩
     case measure=>simp[intOf];omega
  ·go_wp2_with fail
   go_ret;have e:k=m.methods.length:=by omega
   subst e;obtain⟨Ae,ce,rfl,hse⟩:=qsa HO.out (by rw[Xi,XP]) HE.out;have h1:(m.methods.take m.methods.length).map (fun x=>jF m x m.methods.length)=jv m:=by rw[XP];rfl
   rw[h1]at hse;exact⟨Ae,ce,by rw[←h1];first|rfl|simp,hse,HW.out.trans (HX.out.mono HW.out.size)⟩
def qf(W:List (List Bool))(i j:Nat):Bool:=(W[i]?.getD [])[j]?.getD false
structure JC(n:Nat)(W:List (List Bool)):Prop where
 len:W.length=n
 row:∀r ∈W,r.length=n
def vW(W:List (List Bool))(i j:Nat)(b:Bool):List (List Bool):=W.set i ((W[i]?.getD []).set j b)
theorem JC.at_{n i:Nat}{W:List (List Bool)}(h:JC n W)(hi:i<n):(W[i]?.getD []).length=n:=by
 have hl:i<W.length:=by rw[h.len];exact hi
 rw[Xc hl,XY];exact h.row _ (Xd hl)
theorem JC.set{n i j:Nat}{W:List (List Bool)}(h:JC n W)(hi:i<n)(b:Bool):JC n (vW W i j b):=by
 refine⟨by unfold vW;rw[XD];exact h.len,fun r hr=> ?_⟩;rcases Wf hr with q|q
 ·exact h.row r q
 ·rw[q,XD];exact h.at_ hi
theorem qt9{n i j i' j':Nat}{W:List (List Bool)}(h:JC n W)(hi:i<n)(hj:j<n)(b:Bool):qf (vW W i j b) i' j'=if i'=i∧j'=j then b else qf W i' j':=by
 have hl:i<W.length:=by rw[h.len];exact hi
 have hr:=h.at_ hi;unfold qf vW;rw[Wg];by_cases hii:i=i'
 ·subst hii;rw[Xb rfl,Xb hl,XY,Wg];by_cases hjj:j=j'
  ·subst hjj;rw[Xb rfl,Xb (by omega),Xb ⟨rfl,rfl⟩];rfl
  ·rw[Xa hjj,Xa (fun q=>hjj q.2.symm)]
 ·rw[Xa hii,Xa (fun q=>hii q.1.symm)]
structure ZP(EL:List (List Int))(n k:Nat)(W:List (List Bool)):Prop where
 sq:JC n W
 sound:∀i j,i<n→j<n→qf W i j=true→qv EL n i j
 full:∀i j,i<n→j<n→qv EL k i j→qf W i j=true
structure Qd(EL:List (List Int))(n k:Nat)(W0 W:List (List Bool))(i j:Nat):Prop where
 sq:JC n W
 sound:∀a b,a<n→b<n→qf W a b=true→qv EL n a b
 keep:∀a b,a<n→b<n→qf W0 a b=true→qf W a b=true
 done:∀a b,a<n→b<n→(a<i∨(a=i∧b<j))→qf W0 a k=true→qf W0 k b=true→qf W a b=true
theorem ZP.start{EL:List (List Int)}{n k:Nat}{W:List (List Bool)}(h:ZP EL n k W):Qd EL n k W W 0 0:=
 ⟨h.sq,h.sound,fun _ _ _ _ q=>q,fun a b _ _ q=>by omega⟩
theorem Qd.step{EL:List (List Int)}{n k i j:Nat}{W0 W:List (List Bool)}(h:Qd EL n k W0 W i j)(hk:k<n)(hi:i<n)(hj:j<n):
  Qd EL n k W0 (vW W i j (qf W i j||(qf W i k&& qf W k j))) i (j+1):=by
 have hs:∀a b,qf (vW W i j (qf W i j||(qf W i k&& qf W k j))) a b=if a=i∧b=j then(qf W i j||(qf W i k&& qf W k j))else qf W a b:=fun a b=>qt9 h.sq hi hj _
 have hm:∀a b,qf W a b=true→qf (vW W i j (qf W i j||(qf W i k&& qf W k j))) a b=true:=fun a b q=>by
  rw[hs];by_cases e:a=i∧b=j
  ·rw[Xb e,←e.1,←e.2,q,Bool.true_or]
  ·rw[Xa e];exact q
 refine⟨h.sq.set hi _,fun a b ha hb q=> ?_,fun a b ha hb q=>hm a b (h.keep a b ha hb q),fun a b ha hb q h1 h2=> ?_⟩
 ·rw[hs]at q;by_cases e:a=i∧b=j
  ·rw[Xb e]at q;obtain⟨rfl,rfl⟩:=e;rw[We,Xv]at q;rcases q with q|⟨q1,q2⟩
   ·exact h.sound _ _ ha hb q
   ·exact(h.sound _ _ ha hk q1).join hk (h.sound _ _ hk hb q2)
  ·rw[Xa e]at q;exact h.sound a b ha hb q
 ·by_cases e:a=i∧b=j
  ·rw[hs,Xb e];obtain⟨rfl,rfl⟩:=e;rw[h.keep a k ha hk h1,h.keep k b hk hb h2];simp
  ·exact hm a b (h.done a b ha hb (by omega) h1 h2)
theorem Qd.next{EL:List (List Int)}{n k i j:Nat}{W0 W:List (List Bool)}(h:Qd EL n k W0 W i j)(hj:n≤j):Qd EL n k W0 W (i+1) 0:=
 ⟨h.sq,h.sound,h.keep,fun a b ha hb q=>h.done a b ha hb (by omega)⟩
theorem Qd.end_{EL:List (List Int)}{n k i j:Nat}{W0 W:List (List Bool)}(h0:ZP EL n k W0)(h:Qd EL n k W0 W i j)(hk:k<n)(hi:n≤i):ZP EL n (k+1) W:=
 ⟨h.sq,h.sound,fun a b ha hb q=>by
  rcases q.split with q|⟨q1,q2⟩
  ·exact h.keep a b ha hb (h0.full a b ha hb q)
  ·exact h.done a b ha hb (by omega) (h0.full a k ha hk q1) (h0.full k b hk hb q2)⟩
theorem ZP.iff{EL:List (List Int)}{n:Nat}{W:List (List Bool)}(h:ZP EL n n W){i j:Nat}(hi:i<n)(hj:j<n):qf W i j=true↔qv EL n i j:=⟨h.sound i j hi hj,h.full i j hi hj⟩
theorem ZP.first{EL:List (List Int)}{n:Nat}{W:List (List Bool)}(hs:JC n W)(h:∀i j,i<n→j<n→(qf W i j=true↔vl EL i j)):ZP EL n 0 W:=
 ⟨hs,fun i j hi hj q=> .one ((h i j hi hj).mp q),fun i j hi hj q=>by
  cases q with
  |one e=>exact(h i j hi hj).mpr e
  |snoc _ hp _=>omega⟩
def qM(EL:List (List Int)):Nat→Nat→Nat→Bool
 |0,i,j=>decide ((j:Int) ∈EL[i]?.getD [])
 |n+1,i,j=>qM EL n i j||(qM EL n i n&& qM EL n n j)
theorem JS{EL:List (List Int)}{n i j:Nat}:qM EL n i j=true↔qv EL n i j:=by
 induction n generalizing i j with
 |zero=>
  unfold qM;rw[Xr];constructor
  ·exact fun h=> .one h
  ·intro h;cases h with
   |one e=>exact e
   |snoc _ hp _=>omega
 |succ n ih=>
  unfold qM;rw[We,Xv,ih,ih,ih];constructor
  ·rintro(h|⟨h1,h2⟩)
   ·exact h.more (by omega)
   ·exact(h1.more (by omega)).join (by omega) (h2.more (by omega))
  ·exact qv.split
def jU(m:za)(f:Int):List Int:=if 0≤f∧f<m.methods.length then jF m (zu m f) m.methods.length else []
theorem q27(m:za):(jv m).length=m.methods.length:=Xi _
theorem qd8{m:za}{k:Nat}(hk:k<m.methods.length):(jv m)[k]? =some (jU m (k:Int)):=by
 unfold jv jU zu;rw[Xx,Xb ⟨by omega,by omega⟩,Xe,Xc hk];rfl
theorem qsq{m:za}{f:Int}(h:¬(0≤f∧f<m.methods.length)):jU m f=[]:=by unfold jU;rw[Xa h]
theorem qbt(m:za)(f:Int):(jU m f).length≤m.methods.length:=by
 unfold jU;split
 ·exact qmx _ _ _
 ·simp
section
variable(EL:List (List Int))(n:Nat)(C:Nat→Int)
def jG(f g:Nat):Bool:=decide (g=f)||(qM EL n f g&& qM EL n g f)
def jN(f:Nat):Nat→Int
 |0=>0
 |g+1=>if jG EL n f g=true then jN f g+C g else jN f g
def vx(out:Nat→Int)(g:Nat)(b t:Int):Int:=if qM EL n t.toNat g=false∧b<out t.toNat then out t.toNat else b
def je(out:Nat→Int)(g:Nat)(b:Int)(l:List Int):Int:=l.foldl (vx EL n out g) b
def jP(out:Nat→Int)(f:Nat):Nat→Int
 |0=>0
 |g+1=>if jG EL n f g=true then je EL n out g (jP out f g) (EL[g]?.getD [])else jP out f g
def VE:Nat→Nat→Int
 |0,_=>0
 |k+1,f=>jN EL n C f n+jP EL n (VE k) f n
def ki(f:Nat):Int:=VE EL n C n f
def Qg(f:Nat):Nat:=((List.range n).filter (fun g=>decide (g=f)||qM EL n f g)).length
end
theorem qom{l:List Nat}{p q:Nat→Bool}(h:∀x ∈l,p x=true→q x=true)(h2:∃x ∈l,q x=true∧p x=false):(l.filter p).length<(l.filter q).length:=by
 induction l with
 |nil=>obtain⟨x,hx,_⟩:=h2;cases hx
 |cons a l ih=>
  have hle:∀l:List Nat,(∀x ∈l,p x=true→q x=true)→(l.filter p).length≤(l.filter q).length:=by
   intro l
   induction l with
   |nil=>intro _;exact zn _
   |cons b l ih2=>
    intro hb;have h1:=ih2 (fun x hx=>hb x (XI _ hx));have h3:=hb b (XE ..);rw[List.filter_cons,List.filter_cons];cases hp:p b
    ·cases hq:q b<;>simp<;>omega
    ·rw[h3 hp];simp;omega
  have h0:∀x ∈l,p x=true→q x=true:=fun x hx=>h x (XI _ hx);obtain⟨x,hx,hq,hp⟩:=h2;rw[List.filter_cons,List.filter_cons];rcases Xz.mp hx with e|e
  ·subst e;rw[hq,hp];have:=hle l h0;simp;omega
  ·have h1:=ih h0 ⟨x,e,hq,hp⟩;have h3:=h a (XE ..);cases hpa:p a
   ·cases hqa:q a<;>simp<;>omega
   ·rw[h3 hpa];simp;omega
section
variable{EL:List (List Int)}{n:Nat}{C:Nat→Int}
def kv(EL:List (List Int))(n:Nat):Prop:=∀(g:Nat),∀t ∈EL[g]?.getD [],0≤t∧t<(n:Int)
theorem JV{f g:Nat}:jG EL n f g=true↔g=f∨(qv EL n f g∧qv EL n g f):=by
 unfold jG;rw[We,Xr,Xv,JS,JS]
theorem qni(f:Nat):jG EL n f f=true:=JV.mpr (.inl rfl)
theorem q6b{i j:Nat}:qM EL n i j=false↔¬qv EL n i j:=by rw[←JS,Bool.not_eq_true]
theorem qe7{f:Nat}(hf:f<n):0<Qg EL n f:=by
 unfold Qg;exact List.length_pos_of_mem (a:=f) (by rw[List.mem_filter,XQ];exact⟨hf,by simp⟩)
theorem qek(f:Nat):Qg EL n f≤n:=by
 unfold Qg;exact Xg (List.length_filter_le _ _) (by rw[Wb];exact zn _)
theorem qej{f g t:Nat}(hg:g<n)(ht:t<n)(hp:jG EL n f g=true)(he:vl EL g t)(hn:qM EL n t g=false):Qg EL n t<Qg EL n f:=by
 have hgt:qv EL n g t:= .one he;have hnt:=q6b.mp hn;have hft:qv EL n f t:=by
  rcases JV.mp hp with rfl|⟨h1,_⟩
  ·exact hgt
  ·exact h1.join hg hgt
 unfold Qg;refine qom (fun x hx h=> ?_) ⟨g,XQ.mpr hg,?_,?_⟩
 ·rw[We,Xr,JS]at h⊢
  rcases h with rfl|h
  ·exact .inr hft
  ·exact .inr (hft.join ht h)
 ·rw[We,Xr,JS];exact(JV.mp hp).imp id (fun q=>q.1)
 ·rw[Bool.or_eq_false_iff];refine⟨Xf (fun e=> ?_),hn⟩;subst e;exact hnt hgt
theorem qh3{o o':Nat→Int}{g:Nat}{b:Int}{l:List Int}(h:∀t ∈l,qM EL n t.toNat g=false→o t.toNat=o' t.toNat):je EL n o g b l=je EL n o' g b l:=by
 induction l generalizing b with
 |nil=>rfl
 |cons t l ih=>
  show je EL n o g (vx EL n o g b t) l=je EL n o' g (vx EL n o' g b t) l;have e:vx EL n o g b t=vx EL n o' g b t:=by
   unfold vx;by_cases q:qM EL n t.toNat g=false
   ·rw[h t (XE ..) q]
   ·rw[Xa (fun z=>q z.1),Xa (fun z=>q z.1)]
  rw[e];exact ih (fun t ht=>h t (XI _ ht))
theorem q4c(hE:kv EL n){o o':Nat→Int}{f k:Nat}(hk:k≤n)(h:∀g t,g<n→t<n→jG EL n f g=true→vl EL g t→qM EL n t g=false→o t=o' t):jP EL n o f k=jP EL n o' f k:=by
 induction k with
 |zero=>rfl
 |succ g ih=>
  unfold jP;rw[ih (by omega)];by_cases hp:jG EL n f g=true
  ·rw[Xb hp,Xb hp];refine qh3 (fun t ht hw=> ?_);obtain⟨h0,h1⟩:=hE g t ht;exact h g t.toNat (by omega) (by omega) hp (by unfold vl;rw[show((t.toNat:Nat):Int)=t by omega];exact ht) hw
  ·rw[Xa hp,Xa hp]
theorem qfu(hE:kv EL n)(k:Nat):∀f,f<n→Qg EL n f≤k→VE EL n C (k+1) f=VE EL n C k f:=by
 induction k with
 |zero=>intro f hf h;have:=qe7 (EL:=EL) hf;omega
 |succ k ih=>
  intro f hf h;show jN EL n C f n+jP EL n (VE EL n C (k+1)) f n=jN EL n C f n+jP EL n (VE EL n C k) f n;rw[q4c hE (zn _) (fun g t hg ht hp he hw=>ih t ht (by have:=qej hg ht hp he hw;omega))]
theorem q55(hE:kv EL n){f:Nat}(hf:f<n):ki EL n C f=jN EL n C f n+jP EL n (ki EL n C) f n:=by
 have h:=qfu (C:=C) hE n f hf (qek f);unfold ki;rw[←h];rfl
theorem q9y(hE:kv EL n){o:Nat→Int}{f r:Nat}(hf:f<n)(hc:Qg EL n f≤r+1)(h:∀t,t<n→Qg EL n t≤r→o t=ki EL n C t):jN EL n C f n+jP EL n o f n=ki EL n C f:=by
 rw[q55 hE hf,q4c (o':=ki EL n C) hE (zn _) (fun g t hg ht hp he hw=>h t ht (by have:=qej hg ht hp he hw;omega))]
theorem ql7{o:Nat→Int}{g:Nat}{b:Int}{l:List Int}:b≤je EL n o g b l:=by
 induction l generalizing b with
 |nil=>exact XR _
 |cons t l ih=>
  show b≤je EL n o g (vx EL n o g b t) l;refine Int.le_trans ?_ ih;unfold vx;split
  ·rename_i q;exact Int.le_of_lt q.2
  ·exact XR _
theorem ql6{o:Nat→Int}{g:Nat}{b M:Int}{l:List Int}(hb:b≤M)(ho:∀t ∈l,o t.toNat≤M):je EL n o g b l≤M:=by
 induction l generalizing b with
 |nil=>exact hb
 |cons t l ih=>
  show je EL n o g (vx EL n o g b t) l≤M;refine ih ?_ (fun u hu=>ho u (XI _ hu));unfold vx;split
  ·exact ho t (XE ..)
  ·exact hb
theorem q56{o:Nat→Int}{f k:Nat}:0≤jP EL n o f k:=by
 induction k with
 |zero=>exact XR _
 |succ g ih=>
  unfold jP;split
  ·exact Int.le_trans ih ql7
  ·exact ih
theorem qbu{o:Nat→Int}{f k:Nat}{M:Int}(hE:kv EL n)(hM:0≤M)(ho:∀t,t<n→o t≤M):jP EL n o f k≤M:=by
 induction k with
 |zero=>exact hM
 |succ g ih=>
  unfold jP;split
  ·exact ql6 ih (fun t ht=>ho _ (by have:=hE g t ht;omega))
  ·exact ih
theorem q4s{f k:Nat}(hC:∀g,0≤C g):0≤jN EL n C f k:=by
 induction k with
 |zero=>exact XR _
 |succ g ih=>
  unfold jN;have:=hC g;split<;>omega
theorem qno{f g k:Nat}(hC:∀g,0≤C g)(hk:g<k)(hp:jG EL n f g=true):C g≤jN EL n C f k:=by
 induction k with
 |zero=>omega
 |succ j ih=>
  unfold jN;have h1:=hC j;have h2:=q4s (EL:=EL) (n:=n) (f:=f) (k:=j) hC;rcases Xj g j with q|q
  ·have:=ih q;split<;>omega
  ·obtain rfl:g=j:=by omega
   rw[Xb hp];omega
theorem qax{f k:Nat}{M:Int}(hC:∀g,C g≤M)(hM:0≤M):jN EL n C f k≤k*M:=by
 induction k with
 |zero=>simp[jN]
 |succ g ih=>
  unfold jN;have h1:=hC g;have h2:((g+1:Nat):Int)*M=g*M+M:=by rw[Int.natCast_add,Int.add_mul];simp
  rw[h2];split<;>omega
theorem qpk(hE:kv EL n)(hC:∀g,0≤C g){f:Nat}(hf:f<n):C f≤ki EL n C f:=by
 rw[q55 hE hf];have h1:=qno (EL:=EL) (n:=n) (k:=n) hC hf (qni f);have h2:=q56 (EL:=EL) (n:=n) (o:=ki EL n C) (f:=f) (k:=n);omega
theorem qpl(hE:kv EL n)(hC:∀g,0≤C g){f:Nat}(hf:f<n):0≤ki EL n C f:=Int.le_trans (hC f) (qpk hE hC hf)
end
theorem q5l(m:za):kv (jv m) m.methods.length:=fun g t ht=>by
 unfold jv at ht;rw[Xx]at ht;cases hx:m.methods[g]? with
 |none=>rw[hx]at ht;cases ht
 |some x=>
  rw[hx]at ht;have ht:t ∈jF m x m.methods.length:=ht;unfold jF at ht;obtain⟨k,hk,rfl⟩:=XW.mp ht;rw[List.mem_filter,XQ]at hk;omega
def Ja(d:Nat)(s:zm):Nat:=if d<s.stack.length then s.stack.length else d
def vi(S:List zm):Nat:=S.foldl Ja 0
theorem qbp{S:List zm}{k:Nat}(hk:k<S.length):vi (S.take (k+1))=Ja (vi (S.take k)) S[k]:=by
 unfold vi;rw[XA,Xc hk,Wj];rfl
theorem q0o{S:List zm}{n:Nat}(h:∀s ∈S,s.stack.length≤n):vi S≤n:=by
 have H:∀(S:List zm) (d:Nat),(∀s ∈S,s.stack.length≤n)→d≤n→S.foldl Ja d≤n:=by
  intro S
  induction S with
  |nil=>intro d _ hd;exact hd
  |cons s S ih=>
   intro d h hd;refine ih _ (fun t ht=>h t (XI _ ht)) ?_;unfold Ja;split
   ·exact h s (XE ..)
   ·exact hd
 exact H S 0 h (Xl _)
def qO(m:za)(maps:List (List zm))(f:Int):Int:=if 0≤f∧f<m.methods.length then 3+(zu m f).args.length+(zu m f).locals.length+vi (maps[f.toNat]?.getD [])else 0
def Qv(m:za)(f:Nat):Int:=if qM (jv m) m.methods.length f f=true then(zu m (f:Int)).depth else 1
def jd(m:za)(maps:List (List zm))(f:Nat):Int:=Qv m f*qO m maps (f:Int)
def Qc(m:za)(f:Nat):Bool:=qM (jv m) m.methods.length f f&& decide ((zu m (f:Int)).depth<1)
def jr(m:za):Bool:=(List.range m.methods.length).all fun f=> !Qc m f
def jA(m:za)(maps:List (List zm)):List Int:=(List.range m.methods.length).map (ki (jv m) m.methods.length (jd m maps))
theorem VZ(m:za)(maps:List (List zm)):(jA m maps).length=m.methods.length:=by unfold jA;rw[Xi,Wb]
theorem qpj{m:za}{maps:List (List zm)}{f:Nat}(h:f<m.methods.length):(jA m maps)[f]? =some (ki (jv m) m.methods.length (jd m maps) f):=by
 unfold jA;rw[Xx,Ws h];rfl
theorem q08{m:za}{maps:List (List zm)}{f:Int}:0≤qO m maps f:=by
 unfold qO;split<;>omega
theorem q25{m:za}{maps:List (List zm)}{f:Int}(hm:zK m)(hz:vK 4000 maps):qO m maps f≤4011:=by
 unfold qO;split
 ·rename_i h;have hlt:f.toNat<m.methods.length:=by omega
  have hx:zu m f ∈m.methods:=by unfold zu;rw[Xc hlt];exact Xd hlt
  have h1:=(hm.method hx).all;have h2:vi (maps[f.toNat]?.getD [])≤4000:=by
   cases hs:maps[f.toNat]? with
   |none=>exact Xl _
   |some S=>exact q0o (fun s hs'=>(hz S (Xo hs)).2 s hs')
  omega
 ·omega
theorem qa7{m:za}(hm:zK m){f:Nat}(hf:f<m.methods.length):0≤Qv m f∧Qv m f≤8:=by
 have hx:zu m (f:Int) ∈m.methods:=by unfold zu;rw[Xe,Xc hf];exact Xd hf
 have h1:=(hm.method hx).fits.d0;have h2:=(hm.method hx).fits.d1;unfold Qv;split<;>omega
theorem YK{m:za}{maps:List (List zm)}(hm:zK m)(f:Nat):0≤jd m maps f:=by
 unfold jd;rcases Xj f m.methods.length with q|q
 ·exact Int.mul_nonneg (qa7 hm q).1 q08
 ·have:qO m maps (f:Int)=0:=by unfold qO;rw[Xa (by omega)]
  rw[this,Int.mul_zero];exact XR _
theorem Vx{m:za}{maps:List (List zm)}(hm:zK m)(hz:vK 4000 maps)(f:Nat):jd m maps f≤32088:=by
 unfold jd;rcases Xj f m.methods.length with q|q
 ·have h1:=qa7 hm q;have h2:=q25 (f:=(f:Int)) hm hz;have h3:0≤qO m maps (f:Int):=q08;have h4:Qv m f*qO m maps (f:Int)≤8*4011:=Int.mul_le_mul h1.2 h2 h3 (by omega);omega
 ·have:qO m maps (f:Int)=0:=by unfold qO;rw[Xa (by omega)]
  rw[this,Int.mul_zero];omega
section
variable{EL:List (List Int)}{n:Nat}{P:List (List Nat)}{C:Nat→Int}
theorem Qs{i a:Nat}(hi:i<P.length)(h:a ∈P[i]):a ∈P.flatten:=List.mem_flatten.mpr ⟨_,Xd hi,h⟩
theorem qoj{i j a:Nat}(h:P.flatten.Nodup)(hi:i<P.length)(hj:j<P.length)(h1:a ∈P[i])(h2:a ∈P[j]):i=j:=by
 induction P generalizing i j with
 |nil=>simp at hi
 |cons c P ih=>
  rw[List.flatten_cons,List.nodup_append]at h;obtain⟨n1,n2,n3⟩:=h;cases i with
  |zero=>
   cases j with
   |zero=>rfl
   |succ j=>exact absurd rfl (n3 a h1 a (Qs (by simpa using hj) h2))
  |succ i=>
   cases j with
   |zero=>exact absurd rfl (n3 a h2 a (Qs (by simpa using hi) h1))
   |succ j=>rw[ih n2 (by simpa using hi) (by simpa using hj) h1 h2]
theorem vQ.way(h:vQ EL n P){i a b:Nat}(hi:i<P.length)(ha:a ∈P[i])(hb:b<n)(hw:qv EL n a b):∃j,∃hj:j<P.length,j≤i∧b ∈P[j]:=by
 induction hw with
 |one e=>exact h.ord i hi a ha _ hb e
 | @snoc p j _ hp e ih=>
  obtain⟨k,hk,hki,hm⟩:=ih hp;obtain⟨l,hl,hlk,hm2⟩:=h.ord k hk p hm _ hb e;exact⟨l,hl,by omega,hm2⟩
theorem vQ.part(h:vQ EL n P){i f g:Nat}(hi:i<P.length)(hf:f ∈P[i]):g ∈P[i]↔g<n∧jG EL n f g=true:=by
 have hfn:=h.lt f (Qs hi hf);rw[JV];constructor
 ·intro hg;refine⟨h.lt g (Qs hi hg),?_⟩;rcases h.ring _ (Xd hi) f hf g hg with e|h1
  ·exact .inl e.symm
  ·rcases h.ring _ (Xd hi) g hg f hf with e|h2
   ·exact .inl e
   ·exact .inr ⟨h1,h2⟩
 ·rintro⟨hgn,rfl|⟨h1,h2⟩⟩
  ·exact hf
  ·obtain⟨j,hj,hji,hm⟩:=h.way hi hf hgn h1;obtain⟨k,hk,hkj,hm2⟩:=h.way hj hm hfn h2;have:=qoj h.nod hi hk hf hm2;have:j=i:=by omega
   subst this;exact hm
theorem qu4{c d:List Nat}(hc:c.Pairwise (· < ·))(hd:d.Pairwise (· < ·))(h:∀x,x ∈c↔x ∈d):c=d:=by
 refine List.Perm.eq_of_pairwise (le:=(· < ·)) (fun a b _ _ h1 h2=>absurd h1 (by omega)) hc hd ?_;exact(List.perm_ext_iff_of_nodup (hc.imp (fun {a b} q=>by omega)) (hd.imp (fun {a b} q=>by omega))).mpr h
theorem vQ.eq(h:vQ EL n P){i f:Nat}(hi:i<P.length)(hf:f ∈P[i]):P[i]=(List.range n).filter (jG EL n f):=by
 refine qu4 (h.srt _ (Xd hi)).2 (List.pairwise_lt_range.filter _) (fun x=> ?_);rw[h.part hi hf,List.mem_filter,XQ]
def vP(C:Nat→Int)(c:List Nat):Int:=c.foldl (fun s g=>s+C g) 0
theorem qm6{c:List Nat}{k:Nat}(hk:k<c.length):vP C (c.take (k+1))=vP C (c.take k)+C c[k]:=by
 unfold vP;rw[XA,Xc hk,Wj];rfl
def beyP(EL:List (List Int))(n:Nat)(out:Nat→Int)(c:List Nat):Int:=c.foldl (fun b g=>je EL n out g b (EL[g]?.getD [])) 0
theorem qj0(f k:Nat):jN EL n C f k=vP C ((List.range k).filter (jG EL n f)):=by
 induction k with
 |zero=>rfl
 |succ k ih=>
  rw[List.range_succ,List.filter_append,jN,ih];cases hp:jG EL n f k
  ·simp[hp]
  ·simp[hp,vP,Wj]
theorem ql5(out:Nat→Int)(f k:Nat):jP EL n out f k=beyP EL n out ((List.range k).filter (jG EL n f)):=by
 induction k with
 |zero=>rfl
 |succ k ih=>
  rw[List.range_succ,List.filter_append,jP,ih];cases hp:jG EL n f k
  ·simp[hp]
  ·simp[hp,beyP,Wj]
theorem vQ.bound(h:vQ EL n P)(hE:kv EL n){i f:Nat}(hi:i<P.length)(hf:f ∈P[i]){out:Nat→Int}(ho:∀j,(hj:j<i)→∀t ∈P[j]'(by omega),out t=ki EL n C t):
  ki EL n C f=vP C P[i]+beyP EL n out P[i]:=by
 have hfn:=h.lt f (Qs hi hf);rw[q55 hE hfn,qj0,q4c (o':=out) hE (zn _) (fun g t hg ht hp he hw=> ?_),ql5,←h.eq hi hf];obtain⟨j,hj,hji,hm⟩:=h.ord i hi g ((h.part hi hf).mpr ⟨hg,hp⟩) t ht he;have hne:j≠i:=fun e=>by
  subst e;have h1:=(h.part hi hm).mp ((h.part hi hf).mpr ⟨hg,hp⟩);rcases JV.mp h1.2 with rfl|⟨q1,_⟩
  ·exact q6b.mp hw (.one he)
  ·exact q6b.mp hw q1
 exact(ho j (by omega) t hm).symm
theorem vQ.stays(h:vQ EL n P){i g t:Nat}(hi:i<P.length)(hg:g ∈P[i])(ht:t<n)(he:vl EL g t):qM EL n t g=true↔t ∈P[i]:=by
 rw[JS,h.part hi hg,JV];constructor
 ·intro q;exact⟨ht,.inr ⟨.one he,q⟩⟩
 ·rintro⟨_,rfl|⟨_,q⟩⟩
  ·exact .one he
  ·exact q
theorem vQ.cyc(h:vQ EL n P){i f:Nat}(hi:i<P.length)(hf:f ∈P[i]):(∃a ∈P[i],∃b ∈P[i],vl EL a b)↔qM EL n f f=true:=by
 have hfn:=h.lt f (Qs hi hf);rw[JS];constructor
 ·rintro⟨a,ha,b,hb,e⟩;have h1:f=a∨qv EL n f a:=h.ring _ (Xd hi) f hf a ha;have h2:b=f∨qv EL n b f:=h.ring _ (Xd hi) b hb f hf;have han:=h.lt a (Qs hi ha);have hbn:=h.lt b (Qs hi hb);have h3:qv EL n f b:=by
   rcases h1 with rfl|h1
   ·exact .one e
   ·exact .snoc h1 han e
  rcases h2 with rfl|h2
  ·exact h3
  ·exact h3.join hbn h2
 ·intro q;cases q with
  |one e=>exact⟨f,hf,f,hf,e⟩
  | @snoc p _ q hp e=>exact⟨p,(h.part hi hf).mpr ⟨hp,JV.mpr (.inr ⟨q,.one e⟩)⟩,f,hf,e⟩
end
def mx(b x:Int):Int:=if b<x then x else b
def QN(p:List Nat)(t:Int):Bool:= !zR (p.map (fun k:Nat=>(k:Int))) t
def kt(p:List Nat)(out:Nat→Int)(L:List Int):List Int:=(L.filter (QN p)).map fun t=>out t.toNat
def vF(EL:List (List Int))(p:List Nat)(out:Nat→Int)(c:List Nat):List Int:=c.flatMap fun g=>kt p out (EL[g]?.getD [])
theorem qey{p:List Nat}{out:Nat→Int}{L:List Int}{s:Nat}(h:s<L.length):kt p out (L.take (s+1))=kt p out (L.take s)++(if QN p L[s]=true then [out L[s].toNat]else []):=by
 unfold kt;rw[XA,Xc h,List.filter_append,XX];cases q:QN p L[s]<;>simp[q]
theorem qfe{EL:List (List Int)}{p:List Nat}{out:Nat→Int}{c:List Nat}{k:Nat}(h:k<c.length):vF EL p out (c.take (k+1))=vF EL p out (c.take k)++kt p out (EL[c[k]]?.getD []):=by
 unfold vF;rw[XA,Xc h,Wc];simp
theorem q6y{p:List Nat}{out:Nat→Int}{L:List Int}:(kt p out L).length≤L.length:=by
 unfold kt;rw[Xi];exact List.length_filter_le _ _
theorem qfz{EL:List (List Int)}{p:List Nat}{out:Nat→Int}{c:List Nat}{M:Nat}(h:∀g:Nat,(EL[g]?.getD []).length≤M):(vF EL p out c).length≤c.length*M:=by
 unfold vF
 induction c with
 |nil=>simp
 |cons g c ih=>
  rw[List.flatMap_cons,Xt,XL,Nat.add_mul,Nat.one_mul];have h1:=q6y (p:=p) (out:=out) (L:=EL[g]?.getD []);have h2:=h g;omega
theorem qa8{EL:List (List Int)}{p:List Nat}{out:Nat→Int}{c:List Nat}{M:Int}(h:∀t,0≤out t∧out t≤M):∀x ∈vF EL p out c,0≤x∧x≤M:=fun x hx=>by
 unfold vF kt at hx;obtain⟨g,_,hx⟩:=List.mem_flatMap.mp hx;obtain⟨t,_,rfl⟩:=XW.mp hx;exact h _
def kz(T:List Int)(i:Nat):Int:=(T.take i).foldl mx (T[0]?.getD 0)
theorem qrn{T:List Int}(h:0<T.length):kz T 1=T[0]:=by
 unfold kz;cases T with
 |nil=>simp at h
 |cons x T=>
  show mx x x=x;unfold mx;split<;>rfl
theorem qnu{T:List Int}{i:Nat}(h:i<T.length):kz T (i+1)=mx (kz T i) T[i]:=by
 unfold kz;rw[XA,Xc h,Wj];rfl
theorem qcu{T:List Int}(h:0<T.length)(h0:∀x ∈T,0≤x):kz T T.length=T.foldl mx 0:=by
 unfold kz;rw[XP];cases T with
 |nil=>simp at h
 |cons x T=>
  have hx:=h0 x (XE ..);show T.foldl mx (mx x x)=T.foldl mx (mx 0 x);have e1:mx x x=x:=by unfold mx;split<;>rfl
  have e2:mx 0 x=x:=by unfold mx;split<;>omega
  rw[e1,e2]
theorem qub{p:List Nat}{t:Nat}:QN p (t:Int)=false↔t ∈p:=by
 unfold QN zR;simp;exact⟨fun⟨a,h,e⟩=>by rwa [show t=a by omega],fun h=>⟨t,h,rfl⟩⟩
section
variable{EL:List (List Int)}{n:Nat}{P:List (List Nat)}{C:Nat→Int}
theorem qpm{out:Nat→Int}{p:List Nat}{g:Nat}{L:List Int}{b:Int}(h:∀t ∈L,qM EL n t.toNat g=true↔QN p t=false):je EL n out g b L=(kt p out L).foldl mx b:=by
 induction L generalizing b with
 |nil=>rfl
 |cons t L ih=>
  have ih:=fun b=>ih (b:=b) (fun t ht=>h t (XI _ ht));have ht:=h t (XE ..);show je EL n out g (vx EL n out g b t) L=_;rw[ih];unfold kt;rw[List.filter_cons];unfold vx;cases q:QN p t
  ·rw[Xa (fun z=>by rw[ht.mpr q]at z;cases z.1)];rfl
  ·have hw:qM EL n t.toNat g=false:=by
    cases hw:qM EL n t.toNat g with
    |false=>rfl
    |true=>rw[ht.mp hw]at q;cases q
   rw[Xb rfl,List.map_cons,List.foldl_cons];unfold mx;by_cases z:b<out t.toNat
   ·rw[Xb ⟨hw,z⟩,Xb z]
   ·rw[Xa (fun y=>z y.2),Xa z]
theorem vQ.takes(h:vQ EL n P)(hE:kv EL n){i:Nat}(hi:i<P.length)(out:Nat→Int):beyP EL n out P[i]=(vF EL P[i] out P[i]).foldl mx 0:=by
 have H:∀(c:List Nat) (b:Int),(∀g ∈c,g ∈P[i])→c.foldl (fun b g=>je EL n out g b (EL[g]?.getD [])) b=(vF EL P[i] out c).foldl mx b:=by
  intro c
  induction c with
  |nil=>intro b _;rfl
  |cons g c ih=>
   intro b hc;rw[List.foldl_cons,ih _ (fun x hx=>hc x (XI _ hx))];unfold vF;rw[List.flatMap_cons,Wj,qpm (p:=P[i]) (fun t ht=> ?_)];obtain⟨t0,t1⟩:=hE g t ht;obtain⟨k,rfl⟩:=Xm t0;rw[qub];exact h.stays hi (hc g (XE ..)) (by omega) ht
 exact H _ 0 (fun g hg=>hg)
structure QR(EL:List (List Int))(n:Nat)(C:Nat→Int)(P:List (List Nat))(i:Nat)(O:List Int):Prop where
 len:O.length=n
 low:∀t,0≤oN O t
 top:∀t,oN O t≤400000*i
 old:∀j,(hj:j<P.length)→j<i→∀t ∈P[j],oN O t=ki EL n C t
theorem QR.start:QR EL n C P 0 (List.replicate n 0):=by
 have h:∀t,oN (List.replicate n 0) t=0:=fun t=>by
  unfold oN;rw[Wn];split<;>rfl
 exact⟨Wq ..,fun t=>by rw[h];exact XR _,fun t=>by rw[h];omega,fun j _ hj=>by omega⟩
def ZJ(O:List Int)(c:List Nat)(v:Int):List Int:=c.foldl (fun O f=>O.set f v) O
theorem q8z(O:List Int)(c:List Nat)(v:Int):(ZJ O c v).length=O.length:=by
 unfold ZJ
 induction c generalizing O with
 |nil=>rfl
 |cons f c ih=>rw[List.foldl_cons,ih,XD]
theorem qgc{O:List Int}{c:List Nat}{v:Int}{k:Nat}(h:k<c.length):ZJ O (c.take (k+1)) v=(ZJ O (c.take k) v).set c[k] v:=by
 unfold ZJ;rw[XA,Xc h,Wj];rfl
theorem q4q{O:List Int}{c:List Nat}{v:Int}(h:∀f ∈c,f<O.length)(t:Nat):oN (ZJ O c v) t=if t ∈c then v else oN O t:=by
 induction c generalizing O with
 |nil=>simp[ZJ]
 |cons f c ih=>
  show oN (ZJ (O.set f v) c v) t=_;rw[ih (fun x hx=>by rw[XD];exact h x (XI _ hx)),Yg (h f (XE ..))];by_cases q:t ∈c
  ·rw[Xb q,Xb (XI _ q)]
  ·rw[Xa q];by_cases q2:t=f
   ·rw[Xb q2,Xb (by rw[q2];exact XE ..)]
   ·rw[Xa q2,Xa (fun z=>(Xz.mp z).elim q2 q)]
theorem qhb{C D:Nat→Int}{c:List Nat}(h:∀g ∈c,C g=D g):vP C c=vP D c:=by
 have H:∀(c:List Nat) (s:Int),(∀g ∈c,C g=D g)→c.foldl (fun s g=>s+C g) s=c.foldl (fun s g=>s+D g) s:=by
  intro c
  induction c with
  |nil=>intro s _;rfl
  |cons g c ih=>
   intro s hc;rw[List.foldl_cons,List.foldl_cons,hc g (XE ..)];exact ih _ (fun x hx=>hc x (XI _ hx))
 exact H c 0 h
theorem q3f{C:Nat→Int}{c:List Nat}{M:Int}(hM:0≤M)(h:∀g,0≤C g∧C g≤M):0≤vP C c∧vP C c≤c.length*M:=by
 have H:∀(c:List Nat) (s:Int),0≤s→0≤c.foldl (fun s g=>s+C g) s∧c.foldl (fun s g=>s+C g) s≤s+c.length*M:=by
  intro c
  induction c with
  |nil=>intro s hs;simp;exact hs
  |cons g c ih=>
   intro s hs;have h1:=h g;rw[List.foldl_cons];have:=ih (s+C g) (by omega);rw[XL];rw[show(((c.length+1:Nat):Int))*M=c.length*M+M by rw[Int.natCast_add,Int.add_mul];simp];omega
 have:=H c 0 (XR _);unfold vP;omega
theorem qd3{T:List Int}{M:Int}(hM:0≤M)(h:∀x ∈T,0≤x∧x≤M):0≤T.foldl mx 0∧T.foldl mx 0≤M:=by
 have H:∀(l:List Int) (b:Int),(∀x ∈l,0≤x∧x≤M)→0≤b∧b≤M→0≤l.foldl mx b∧l.foldl mx b≤M:=by
  intro l
  induction l with
  |nil=>intro b _ hb;exact hb
  |cons x l ih=>
   intro b hl hb;refine ih _ (fun y hy=>hl y (XI _ hy)) ?_;have:=hl x (XE ..);unfold mx;split<;>omega
 exact H T 0 h ⟨XR _,hM⟩
theorem QR.step{i:Nat}{O:List Int}(h:QR EL n C P i O)(hR:vQ EL n P)(hE:kv EL n)(hn:n≤12)(h0:∀g,0≤C g∧C g≤32088)(hi:i<P.length){v:Int}(hv:v=vP C P[i]+(vF EL P[i] (oN O) P[i]).foldl mx 0):QR EL n C P (i+1) (ZJ O P[i] v):=by
 have hlt:∀f ∈P[i],f<O.length:=fun f hf=>by rw[h.len];exact hR.lt f (Qs hi hf)
 have hc:P[i].length≤12:=by
  have h1:P[i].length≤n:=Vz ((hR.srt _ (Xd hi)).2.imp (fun {a b} q=>by omega)) (fun f hf=>hR.lt f (Qs hi hf));omega
 have s1:=q3f (c:=P[i]) (M:=32088) (by omega) h0;have s2:=qd3 (M:=400000*(i:Int)) (by omega) (qa8 (EL:=EL) (p:=P[i]) (c:=P[i]) (fun t=>⟨h.low t,h.top t⟩));have s3:(P[i].length:Int)*32088≤12*32088:=Int.mul_le_mul_of_nonneg_right (by omega) (by omega);refine⟨by rw[q8z];exact h.len,fun t=> ?_,fun t=> ?_,fun j hj hji t ht=> ?_⟩
 ·rw[q4q hlt];split
  ·omega
  ·exact h.low t
 ·rw[q4q hlt];have:=h.top t;split<;>omega
 ·rw[q4q hlt];by_cases q:t ∈P[i]
  ·rw[Xb q,hv,←hR.takes hE hi];exact(hR.bound hE hi q (fun k hk u hu=>h.old k (by omega) hk u hu)).symm
  ·rw[Xa q];refine h.old j hj ?_ t ht;rcases Xj j i with z|z
   ·exact z
   ·obtain rfl:j=i:=by omega
    exact absurd ht q
theorem QR.done{i:Nat}{O:List Int}(h:QR EL n C P i O)(hR:vQ EL n P)(hi:P.length≤i):O=(List.range n).map (ki EL n C):=by
 refine Wl (by rw[h.len,Xi,Wb]) fun k h1 h2=> ?_;have hk:k<n:=by rw[←h.len];exact h1
 obtain⟨c,hc,hkc⟩:=List.mem_flatten.mp (hR.all k hk);obtain⟨j,hj,rfl⟩:=List.mem_iff_getElem.mp hc;have:=h.old j hj (by omega) k hkc;rw[Zb h1]at this;rw[this];simp
end
set_option maxHeartbeats 1600000 in
theorem qqn(T:List Int)(A:Option Addr)(c:Nat)(w:World)(h:zx w w.heap.size A (T.map (Value.int .i64)))(h0:0<T.length)(hl:T.length≤1048576):
  Calls Tryz.prog 63 #[.slice A T.length c] w fun e w'=>e= .returned (.int .i64 (kz T T.length))∧w=w':=by
 have HL:=zH h;clear h;obtain⟨ad,rfl,hab,hc0⟩:=HL.out 0 (.int .i64 T[0]) (by rw[Xx,Xc h0];rfl);have HM1:Hid (kz T 1=T[0]):=zH (qrn h0);obtain⟨t0,ht0⟩:∃z,T[0]=z:=⟨_,rfl⟩
 rw[ht0]at hc0 HM1;rw[show ad.add 0=ad by simp[Addr.add]]at hc0;obtain⟨n,hn⟩:∃n,T.length=n:=⟨_,rfl⟩
 have HN:=zH hn;rw[hn]at h0 hl⊢
 clear ht0 hn hab;have hn1:¬(n:Int)<1:=by omega
 go_enter Tryz.func63,Tryz.ntmps63;go_wp2_with fail
 go_loopw [3,4] (fun m i wr=>∃k:Nat,1≤k∧k≤n∧i= .int .i64 k∧m= .int .i64 (kz T k)∧wr=w) (fun _ i _=>n - (intOf i).toNat)
 case atStart=>exact⟨1,zn _,h0,rfl,by rw[HM1.out],by first|rfl|trivial⟩
 case round=>
  obtain⟨k,hk1,hk,rfl,rfl,hwr⟩:=hrel;have hwr:=hwr.symm;subst hwr;obtain⟨M,hM⟩:∃z,kz T k=z:=⟨_,rfl⟩
  rw[hM];by_cases hlt:k<n
  ·have hkT:k<T.length:=by rw[HN.out];exact hlt
   obtain⟨ad2,e2,hab,ck⟩:=HL.out k (.int .i64 T[k]) (by rw[Xx,Xc hkT];rfl);injection e2 with e2;subst e2;have HS:Hid (kz T (k+1)=mx M T[k]):=zH (by rw[qnu hkT,hM]);generalize T[k]=x at*
   clear hM hab hc0 hkT;by_cases hg:M<x
   ·have hgi:x>M:=hg;have hmx:max M x=x:=by omega
    have HY:Hid (kz T (k+1)=x):=zH (by rw[HS.out];unfold mx;rw[Xb hg]);go_wp2_with fail
    go_roundw;case rel=>exact⟨k+1,by omega,by omega,by go_num,by rw[HY.out],by first|rfl|trivial⟩
    case measure=>simp[intOf];omega
   ·have hgi:¬x>M:=hg;have hmx:max M x=M:=by omega
    have HY:Hid (kz T (k+1)=M):=zH (by rw[HS.out];unfold mx;rw[Xa hg]);go_wp2_with fail
    go_roundw;case rel=>exact⟨k+1,by omega,by omega,by go_num,by rw[HY.out],by first|rfl|trivial⟩
    case measure=>simp[intOf];omega
  ·obtain rfl:k=n:=by omega
   clear hc0;have HE:=zH hM;clear hM;go_wp2_with fail
   go_ret;exact⟨by rw[HE.out];first|rfl|done,rfl⟩
theorem qds{T:List Int}{A:Option Addr}{c n:Nat}{w:World}{r:Int}(HL:Hid (zx w w.heap.size A (T.map (Value.int .i64))))(HN:Hid (T.length=n))(h0:0<n)(hl:n≤1048576)(HR:Hid (kz T T.length=r)):
  Calls Tryz.prog 63 #[.slice A n c] w fun e w'=>e= .returned (.int .i64 r)∧w=w':=by
 obtain rfl:=HN.out;have H:=qqn T A c w HL.out h0 hl;rw[HR.out]at H;exact H
theorem qrh(p:List Nat):zP p=(p.map (fun k:Nat=>(k:Int))).map (Value.int .i64):=by unfold zP;rw[List.map_map];rfl
theorem q9p{p:List Nat}{R:Option Addr}{c k:Nat}{x:Int}{b:Bool}{w:World}(HR:Hid (zx w w.heap.size R (zP p)))(HP:Hid (p.Pairwise (· < ·)))(HK:Hid (p.length=k))(hk:k≤1000)(HB:Hid (QN p x=b)):
  Calls Tryz.prog 109 #[.slice R k c,.int .i64 x] w fun e w'=>∃i:Int,e= .returned (.tuple #[.int .i64 i,.bool (!b)])∧Below w.heap.size w w':=by
 have H:=q8q (p.map (fun k:Nat=>(k:Int))) x R c w (by rw[Xi,HK.out];omega) (by rw[←qrh];exact HR.out) (List.pairwise_map.mpr (HP.out.imp (fun {a b} q=>by omega)));rw[Xi,HK.out,show zR (p.map (fun k:Nat=>(k:Int))) x= !b by rw[←HB.out];unfold QN;simp]at H;exact H
set_option maxHeartbeats 6400000 in
theorem qgx(EL:List (List Int))(n gB:Nat)(O:List Int)(p:List Nat)(E R:Option Addr)(ce cr:Nat)(w:World)(hE:zd (zG zq 1) 1 w w.heap.size E ce EL)(hn:EL.length=n)(hn12:n≤12)(hED:kv EL n)(hEl:∀g:Nat,(EL[g]?.getD []).length≤12)
  (hR:zx w w.heap.size R (zP p)) (hp:∀g ∈p,g<n) (hs:p.Pairwise (· < ·)) (hpl:p.length≤12) (hO:zY w gB O) (hOl:O.length=n) (hlow:∀t,0≤oN O t):
  Calls Tryz.prog 62 #[.slice E n ce,.slice R p.length cr,.slice (some ⟨gB,0,none⟩) n n] w fun e w'=>e= .returned (.int .i64 ((vF EL p (oN O) p).foldl mx 0))∧Below w.heap.size w w':=by
 obtain⟨i1,hi1,hz01,hz11,hz21⟩:=qQ vD;have hel:=hE.le;have hec:=hE.cap;rw[hn]at hel;have HE:=zH hE;have HN:=zH hn;have HED:=zH hED;have HEL:=zH hEl;have HR:=zH hR;have HP:=zH hp;have HS:=zH hs;have HO:=zH hO;have HOL:=zH hOl;have HLOW:=zH hlow;obtain⟨np,hnp⟩:∃z,p.length=z:=⟨_,rfl⟩
 have HNP:=zH hnp;obtain⟨r,hr⟩:∃z,(vF EL p (oN O) p).foldl mx 0=z:=⟨_,rfl⟩
 have HRR:=zH hr;rw[hnp]at hpl⊢
 rw[hr];clear hE hn hED hEl hR hp hs hO hOl hlow hnp hr;have HX0:Hid (Below w.heap.size w w):=zH (zb _ _);go_enter Tryz.func62,Tryz.ntmps62;go_wp2_with fail
 go_loopw [7,16] (fun v i wr=>∃(k:Nat) (T:List Int),k≤np∧i= .int .i64 k∧Hid (vF EL p (oN O) (p.take k)=T)∧Hid (wr.ownsRow w.heap.size 3 1 v T.length (T.map (Value.int .i64)))∧Hid (Below w.heap.size w wr)) (fun _ i _=>np - (intOf i).toNat)
 case atStart=>exact⟨0,[],Xl _,rfl,zH rfl,zH (XT _ _ _ _),HX0⟩
 case round=>
  clear HX0;obtain⟨k,T,hk,rfl,HT,HW,HX⟩:=hrel;have hTl:T.length≤k*12:=by
   rw[←HT.out];refine Xg (qfz HEL.out) ?_;rw[XU];exact Nat.mul_le_mul_right _ (Nat.min_le_left _ _)
  have hTl2:k*12≤144:=by omega
  by_cases hlt:k<np
  ·have hkp:k<p.length:=by rw[HNP.out];exact hlt
   obtain⟨g,hg⟩:∃g,p[k]=g:=⟨_,rfl⟩
   have hgn:=HP.out p[k] (Xd hkp);obtain⟨ar,rfl,har,r0⟩:=HR.out k (.int .i64 (g:Int)) (by unfold zP;rw[Xx,Xc hkp,hg];rfl);have r0:=(HX.out.cell (p:=ar.add k) (by rw[zp];exact har)).trans r0;rw[hg]at hgn;have hgE:g<EL.length:=by rw[HN.out];exact hgn
   obtain⟨adE,rfl,habE,A1,cL,e0,hsr⟩:=HE.out.row.at_ hgE;obtain⟨L,hL⟩:∃z,EL[g]=z:=⟨_,rfl⟩
   rw[hL]at e0 hsr;rw[Xq]at e0;have e0:=(HX.out.cell (p:=adE.add g) (by rw[zp];exact habE)).trans e0;have hge:EL[g]?.getD []=L:=by rw[Xc hgE,hL];rfl
   have HLE:=zH hge;have hLl:L.length≤12:=by rw[←hge];exact HEL.out g
   have HTK:Hid (vF EL p (oN O) (p.take (k+1))=T++kt p (oN O) L):=zH (by rw[qfe hkp,HT.out,hg,hge]);have HLR:=zH hsr;have hrl:=hsr.le;have hrc:=hsr.cap;clear hg hge hL hsr hgE har habE hkp;go_wp2_with fail
   clear r0 e0;go_loopw [7,25] (fun v j wi=>∃(s:Nat) (T2:List Int),s≤L.length∧j= .int .i64 s∧Hid (T++kt p (oN O) (L.take s)=T2)∧Hid (wi.ownsRow w.heap.size 3 1 v T2.length (T2.map (Value.int .i64)))∧Hid (Below w.heap.size w wi)) (fun _ j _=>L.length - (intOf j).toNat)
   case atStart=>exact⟨0,T,Xl _,rfl,zH (by simp[kt]),HW,HX⟩
   case round=>
    clear HW HX;obtain⟨s,T2,hs,rfl,HT2,HW,HX⟩:=hrel;have hT2:T2.length≤156:=by
     rw[←HT2.out,Xt];have h1:=q6y (p:=p) (out:=oN O) (L:=L.take s);rw[XU]at h1;omega
    by_cases hsl:s<L.length
    ·obtain⟨adL,rfl,habL,l0⟩:=HLR.out.row.at_ hsl;have l0:w.cell? (adL.add s)=some (.int .i64 L[s]):=by have:=l0;rw[Xq]at this;exact this
     have l0:=(HX.out.cell (p:=adL.add s) (by rw[zp];exact habL)).trans l0;obtain⟨t0,t1⟩:=HED.out g L[s] (by rw[HLE.out];exact Xd hsl);have HTK2:Hid (T++kt p (oN O) (L.take (s+1))=T2++(if QN p L[s]=true then [oN O L[s].toNat]else [])):=zH (by rw[qey hsl,←X8,HT2.out]);generalize L[s]=tt at*
     obtain⟨t,rfl⟩:=Xm t0;have htn:t<n:=by omega
     have HTN:=zH htn;obtain⟨b,hb⟩:∃z,QN p (t:Int)=z:=⟨_,rfl⟩
     have HB:=zH hb;have HRN:Hid (zx _ _ (some ar) (zP p)):=zH ((HR.out.below HX.out).more HX.out.size);have hsz:=HX.out.size;clear t0 t1 hb habL;cases b
     ·have HY:Hid (T++kt p (oN O) (L.take (s+1))=T2):=zH (by rw[HTK2.out,HB.out];simp);go_wp2_with(go_at_call 109;(with_reducible refine(q9p HRN HS HNP (by omega) HB).mono ?_);rintro e w5 ⟨i5,rfl,hb⟩;have HX5:=zH (HX.out.trans (hb.mono hsz));have HW5:=zH (qo HW.out hb (zZ HW.out));clear hb)
      go_roundw;case rel=>exact⟨s+1,T2,by omega,by go_num,HY,HW5,HX5⟩
      case measure=>simp[intOf];omega
     ·have HY:Hid (T++kt p (oN O) (L.take (s+1))=T2++[oN O t]):=zH (by rw[HTK2.out,HB.out];simp);obtain⟨ov,hov⟩:∃z,oN O t=z:=⟨_,rfl⟩
      have HOV:=zH hov;rw[hov]at HY;clear hov;go_wp2_with(first
       |(go_at_call 109;(with_reducible refine(q9p HRN HS HNP (by omega) HB).mono ?_);rintro e w5 ⟨i5,rfl,hb⟩;have HX5:=zH (HX.out.trans (hb.mono hsz));have HW5:=zH (qo HW.out hb (zZ HW.out));have hsz5:=HX5.out.size;have o1:=(HO.out.keep HX5.out).at_ (t:=t) (by rw[HOL.out];exact HTN.out);rw[HOV.out]at o1;clear hb)
       |(at_builtin;refine vt rfl _ _ 26 rfl _ 3 i1 (.int .i64 0) 1 8 Tryz.underlying26 hi1 hz01 hz11 hz21 rfl (by decide) _ T2.length (T2.map (Value.int .i64)) rfl (HW5.out.alloc _) (some ⟨w5.heap.size,0,none⟩) 1 1 _ [.int .i64 ov] rfl rfl (Jv w5 _ _) (Qq rfl) (by unfold maxLen;omega) (by omega) (by simp;omega) ?_;intro v6 w6 hown hgrow;have HW6:=zH hown;have HX6:=zH (qN (HX5.out.alloc hsz5 _) (HW5.out.alloc _) (by simp;omega) hgrow);clear hown hgrow))
      go_roundw;case rel=>exact⟨s+1,T2++[ov],by omega,by go_num,HY,zH (by simpa using HW6.out),HX6⟩
      case measure=>simp[intOf];omega
    ·have HY:Hid (vF EL p (oN O) (p.take (k+1))=T2):=zH (by rw[HTK.out,←HT2.out,XH (by omega)]);go_wp2_with fail
     go_roundw;case rel=>exact⟨k+1,T2,by omega,by go_num,HY,HW,HX⟩
     case measure=>simp[intOf];omega
  ·obtain⟨A7,c7,rfl,hll,hc1,hc2⟩:=ku HW.out;have HLL:=zH hll;have HTT:Hid (vF EL p (oN O) p=T):=zH (by rw[←HT.out,XH (by rw[HNP.out];omega)]);clear hll;by_cases h0:T.length=0
   ·have HZ:Hid (r=0):=zH (by rw[←HRR.out,HTT.out,List.length_eq_zero_iff.mp h0];rfl);have h0i:(T.length:Int)=0:=by omega
    go_wp2_with fail
    go_ret;exact⟨by rw[HZ.out];first|rfl|done,HX.out⟩
   ·have h0n:0<T.length:=by omega
    have h0i:((T.length:Int)==0)=false:=by simpa using h0
    have HMO:Hid (kz T T.length=r):=zH (by
     rw[qcu h0n,←HRR.out,HTT.out];intro x hx;rw[←HTT.out]at hx;unfold vF kt at hx;obtain⟨g,_,hx⟩:=List.mem_flatMap.mp hx;obtain⟨t,_,rfl⟩:=XW.mp hx;exact HLOW.out _)
    have HTE:Hid (T.length=T.length):=zH rfl;go_wp2_with(go_at_call 63;(with_reducible refine(qds HLL HTE h0n (by omega) HMO).mono ?_);rintro e w8 ⟨rfl,rfl⟩)
    go_ret;exact⟨rfl,HX.out⟩
theorem qko{EL:List (List Int)}{n np gB:Nat}{O:List Int}{p:List Nat}{E R:Option Addr}{ce cr:Nat}{w:World}{r:Int}(HE:Hid (zd (zG zq 1) 1 w w.heap.size E ce EL))(HN:Hid (EL.length=n))(hn12:n≤12)(HED:Hid (kv EL n∧∀g:Nat,(EL[g]?.getD []).length≤12))
  (HR:Hid (zx w w.heap.size R (zP p))) (HP:Hid ((∀g ∈p,g<n)∧p.length≤12)) (HS:Hid (p.Pairwise (· < ·))) (HNP:Hid (p.length=np)) (HO:Hid (zY w gB O)) (HOL:Hid (O.length=n∧∀t,0≤oN O t)) (HRR:Hid ((vF EL p (oN O) p).foldl mx 0=r)):
  Calls Tryz.prog 62 #[.slice E n ce,.slice R np cr,.slice (some ⟨gB,0,none⟩) n n] w fun e w'=>e= .returned (.int .i64 r)∧Below w.heap.size w w':=by
 obtain rfl:=HNP.out;have H:=qgx EL n gB O p E R ce cr w HE.out HN.out hn12 HED.out.1 HED.out.2 HR.out HP.out.1 HS.out HP.out.2 HO.out HOL.out.1 HOL.out.2;rw[HRR.out]at H;exact H
set_option maxHeartbeats 1600000 in
theorem qfc(m:za)(f:Int)(r:Bool)(hr:(decide (0≤f)&& decide (f<m.methods.length))=r)(h:zg)(w:World)(H:zi w w.heap.size h m):
  Calls Tryz.prog 150 #[zk h m,.int .i64 f] w fun e w'=>e= .returned (.bool r)∧Below w.heap.size w w':=by
 have HW:=zH ((zb w.heap.size w).alloc (zn _) (zo h m));have HBX:=zH (zX w h m);have hle:=H.methods.le;have hcap:=H.methods.cap;clear H;by_cases h0:0≤f
 ·by_cases h1:f<m.methods.length
  ·have e:r=true:=by rw[←hr,Xh h0,Xh h1];rfl
   subst e;clear hr;go_enter Tryz.func150,Tryz.ntmps150;go_upto_region 1 with fail
   generalize w.alloc (zo h m)=w1 at*
   obtain⟨q0,q1,q2,q3,q4,q5,q6⟩:=HBX.out;go_wp2_with fail
   go_ret;exact⟨rfl,HW.out⟩
  ·have e:r=false:=by rw[←hr,Xf h1,Bool.and_false]
   subst e;clear hr;go_enter Tryz.func150,Tryz.ntmps150;go_upto_region 1 with fail
   generalize w.alloc (zo h m)=w1 at*
   obtain⟨q0,q1,q2,q3,q4,q5,q6⟩:=HBX.out;go_wp2_with fail
   go_ret;exact⟨rfl,HW.out⟩
 ·have e:r=false:=by rw[←hr,Xf h0,Bool.false_and]
  subst e;clear hr;go_enter Tryz.func150,Tryz.ntmps150;go_upto_region 1 with fail
  generalize w.alloc (zo h m)=w1 at*
  obtain⟨q0,q1,q2,q3,q4,q5,q6⟩:=HBX.out;go_wp2_with fail
  go_ret;exact⟨rfl,HW.out⟩
theorem q1b{m:za}{f:Int}{r:Bool}{h:zg}{w0 w:World}(HI:Hid (zi w0 w0.heap.size h m))(HX:Hid (Below w0.heap.size w0 w))(HR:Hid ((decide (0≤f)&& decide (f<m.methods.length))=r)):
  Calls Tryz.prog 150 #[zk h m,.int .i64 f] w fun e w'=>e= .returned (.bool r)∧Below w.heap.size w w':=by
 exact qfc m f r HR.out h w (HI.out.now HX.out)
set_option maxHeartbeats 3200000 in
theorem qkp(m:za)(a b:Int)(h:zg)(w:World)(H:zi w w.heap.size h m)(hn:m.classes.length≤1000):
  Calls Tryz.prog 189 #[zk h m,.int .i64 a,.int .i64 b] w (vJ (kf m b (Zp m.classes a)) w):=by
 obtain⟨L,hL⟩:∃L,Zp m.classes a=L:=⟨_,rfl⟩
 rw[hL];have hLl:L.length≤1000:=by rw[←hL];exact Xg (Vg _ _ _) hn
 have HLB:=zH hL;clear hL;obtain⟨i0,hi,hz0,hz1,hz2⟩:=info_parts vD;have HW:=zH ((zb w.heap.size w).alloc (zn _) (zo h m));have HIM:=zH (H.now HW.out);have HBX:=zH (zX w h m);have HZ:Hid (w.heap.size<(w.alloc (zo h m)).heap.size):=zH (by simp);have hn1:=hn;have hkc:=H.classes.cap;clear H;go_enter Tryz.func189,Tryz.ntmps189;go_upto_region 1 with fail
 generalize w.alloc (zo h m)=w1 at*
 have HX0:Hid (Below w1.heap.size w1 w1):=zH (zb _ _);obtain⟨q0,q1,q2,q3,q4,q5,q6⟩:=HBX.out;go_wp2_with(go_at_call 202;(with_reducible refine(qpi HIM HX0 HLB hn1).mono ?_);rintro e w5 ⟨v5,rfl,ho,hb⟩;have HX:=zH hb;obtain⟨A5,c5,rfl,hl5,g1,g2⟩:=ku ho;have HL5:=zH hl5;clear hb ho hl5)
 go_loopw [7,16] (fun v i wr=>∃k:Nat,k≤L.length∧i= .int .i64 k∧Hid (wr.ownsRow w1.heap.size 3 1 v (kf m b (L.take k)).length ((kf m b (L.take k)).map (Value.int .i64)))∧Hid (Below w1.heap.size w1 wr)∧Hid (zx wr w5.heap.size A5 (L.map (Value.int .i64)))∧Hid (Jf v A5)∧Hid (w5.heap.size≤wr.heap.size)) (fun _ i _=>L.length - (intOf i).toNat)
 case atStart=>exact⟨0,Xl _,rfl,zH (XT _ _ _ _),HX,HL5,zH (fun g hg=>by simp[Value.ownBlock]at hg),zH (zn _)⟩
 case round=>
  clear HX HL5 q0 q1 q2 q3 q4 q5 q6;obtain⟨k,hk,rfl,HO,HX,HL5,HAP,HSZ⟩:=hrel;by_cases hlt:k<L.length
  ·obtain⟨ad,rfl,hab,hc0⟩:=HL5.out k (.int .i64 L[k]) (by rw[Xx,Xc hlt];rfl);have hs:=q71 (m:=m) (b:=b) hlt;have hyl:(kf m b (L.take k)).length≤1000:=Xg (q3h _ _ _) (by rw[XU];omega);obtain⟨q,hq⟩:∃q,L[k]=q:=⟨_,rfl⟩
   rw[hq]at hs hc0;have p:=hc0;have HLT5:Hid (∀ad',some ad=some ad'→ad'.block<w5.heap.size):=zH (fun ad' e=>by injection e with e;subst e;exact hab);obtain⟨o,ho⟩:∃o,jK m.classes q b=o:=⟨_,rfl⟩
   rw[ho]at hs;have HSV:=zH ho;have HS:=zH hs;clear hs ho hq hab hc0;generalize kf m b (L.take k)=Y at*
   obtain⟨q0,q1,q2,q3,q4,q5,q6⟩:=HBX.out.keep HX.out HZ.out;have hszr:=HX.out.size;cases o with
   |none=>
    go_wp2_with(go_at_call 198;(with_reducible refine(q5m HIM HX HSV).mono ?_);rintro e w2 ⟨rfl,hb⟩;have HX2:=zH (HX.out.trans (hb.mono HX.out.size));have HL52:=zH ((HL5.out.below_to hb HSZ.out):zx w2 w5.heap.size (some ad) (L.map (Value.int .i64)));have HSZ2:Hid (w5.heap.size≤w2.heap.size):=zH (Xg HSZ.out hb.size);have HO2:=zH (qo HO.out hb (zZ HO.out));clear hb)
    go_roundw;case rel=>exact⟨k+1,by omega,by go_num,zH (by rw[HS.out,Option.toList_none,List.append_nil];exact HO2.out),HX2,HL52,HAP,HSZ2⟩
    case measure=>simp[intOf];omega
   |some g=>
    go_wp2_with(first
     |(go_at_call 198;(with_reducible refine(q5m HIM HX HSV).mono ?_);rintro e w2 ⟨rfl,hb⟩;have HX2:=zH (HX.out.trans (hb.mono HX.out.size));have HL52:=zH ((HL5.out.below_to hb HSZ.out):zx w2 w5.heap.size (some ad) (L.map (Value.int .i64)));have HSZ2:Hid (w5.heap.size≤w2.heap.size):=zH (Xg HSZ.out hb.size);have HO2:=zH (qo HO.out hb (zZ HO.out));have hsz2:=HX2.out.size;clear hb)
     |(at_builtin;refine wpList_append_lies _ rfl _ _ 26 rfl w1.heap.size 3 i0 (.int .i64 0) 1 8 Tryz.underlying26 hi hz0 hz1 hz2 rfl (by decide) _ _ _ rfl (HO2.out.alloc _) ⟨_,0,none⟩ 1 1 [.int .i64 g] rfl rfl (q0l _ _) (q0f _) (by decide) (by unfold maxLen;omega) (by omega) (by simp;omega) _ rfl ?_;intro g9 c9 w3 hown' hgrow hor hlt9;have hR:=Yy HO2.out hsz2 HX2.out hown' hgrow;have HO3:=zH hR.1;have HX3:=zH hR.2;have HL53:=zH (q42 HL52.out HSZ2.out hgrow HAP.out);have HAP3:Hid (Jf (.slice (some ⟨g9,0,none⟩) (Y.length+1) c9) (some ad)):=zH (q1q HAP.out HLT5.out hor (by have:=HSZ2.out;simp;omega));have HSZ3:Hid (w5.heap.size≤w3.heap.size):=zH (by have h1:=hgrow.size;have h2:=HSZ2.out;simp at h1;omega);clear hown' hgrow hR hor hlt9))
    go_roundw;case rel=>exact⟨k+1,by omega,by go_num,zH (by rw[HS.out];exact HO3.out),HX3,HL53,HAP3,HSZ3⟩
    case measure=>simp[intOf];omega
  ·obtain rfl:k=L.length:=by omega
   go_wp2_with fail
   go_ret;rw[XP]at HO;exact⟨_,rfl,jc HO.out HW.out.size,HW.out.trans (HX.out.mono HW.out.size)⟩
theorem qp3{m:za}{a b:Int}{L:List Int}{h:zg}{w0 w:World}(HI:Hid (zi w0 w0.heap.size h m))(HX:Hid (Below w0.heap.size w0 w))(hn:m.classes.length≤1000)(HL:Hid (kf m b (Zp m.classes a)=L)):
  Calls Tryz.prog 189 #[zk h m,.int .i64 a,.int .i64 b] w (vJ L w):=by
 have H:=qkp m a b h w (HI.out.now HX.out) hn;rw[HL.out]at H;exact H
set_option maxHeartbeats 1600000 in
theorem qks(m:za)(op a b:Int)(h:zg)(w:World)(H:zi w w.heap.size h m)(hn:m.classes.length≤1000):
  Calls Tryz.prog 151 #[zk h m,zz op a b] w (vJ (qk m op a b) w):=by
 obtain⟨T,hT⟩:∃T,qk m op a b=T:=⟨_,rfl⟩
 rw[hT];have HT:=zH hT;clear hT;obtain⟨hq,hc,hb,hz⟩:=Vj h m op a b w;have HW:=zH hb;have HC:=zH hc;have HZ:=zH hz;have HBX:=zH hq;have HIM:=zH (H.now hb);have hn1:=hn;clear hb hq hc hz H hn;go_enter Tryz.func151,Tryz.ntmps151;go_upto_region 1 with fail
 generalize(w.alloc (zo h m)).alloc (.cells #[.int .i64 op,.int .i64 a,.int .i64 b] 55)=w1 at*
 have HX0:Hid (Below w1.heap.size w1 w1):=zH (zb _ _);obtain⟨q0,q1,q2,q3,q4,q5,q6⟩:=HBX.out;have j0:=HC.out 0 _ rfl;have j1:=HC.out 1 _ rfl;have j2:=HC.out 2 _ rfl;by_cases h31:op=31
 ·subst h31;have e:[a]=T:=HT.out;subst e;go_wp2_with fail
  go_ret;have hb:Below w1.heap.size w1 (w1.alloc (.cells #[.int .i64 a] 3)):=(zb _ _).alloc (zn _) _;refine⟨_,rfl,⟨rfl,.inr ⟨w1.heap.size,1,#[.int .i64 a],rfl,HW.out.size,XO _ _,zn _,by unfold maxLen;omega,rfl,rfl⟩⟩,HW.out.trans (hb.mono HW.out.size)⟩
 ·by_cases h32:op=32
  ·subst h32;have HL:Hid (kf m b (Zp m.classes a)=T):=zH HT.out;go_wp2_with(go_at_call 189;(with_reducible refine(qp3 HIM HX0 hn1 HL).mono ?_);rintro e w5 ⟨v5,rfl,ho,hb⟩;have HO:=zH ho;have HX:=zH hb;clear hb ho)
   go_ret;exact⟨v5,rfl,jc HO.out HW.out.size,HW.out.trans (HX.out.mono HW.out.size)⟩
  ·have e:[]=T:=by have:=HT.out;unfold qk at this;rw[Xa h31,Xa h32]at this;exact this
   subst e;go_wp2_with fail
   go_ret;exact⟨_,rfl,XT _ _ _ _,HW.out⟩
theorem qpc{m:za}{op a b:Int}{L:List Int}{h:zg}{w0 w:World}(HI:Hid (zi w0 w0.heap.size h m))(HX:Hid (Below w0.heap.size w0 w))(hn:m.classes.length≤1000)(HL:Hid (qk m op a b=L)):
  Calls Tryz.prog 151 #[zk h m,zz op a b] w (vJ L w):=by
 have H:=qks m op a b h w (HI.out.now HX.out) hn;rw[HL.out]at H;exact H
def Je(m:za)(cs:List (Int×Int×Int))(g:Nat):Bool:=cs.any fun i=>zR (qk m i.1 i.2.1 i.2.2) (g:Int)
theorem qj6{m:za}{cs:List (Int×Int×Int)}{t:Nat}(h:t<cs.length)(g:Nat):Je m (cs.take (t+1)) g=(Je m (cs.take t) g||zR (qk m cs[t].1 cs[t].2.1 cs[t].2.2) (g:Int)):=by
 unfold Je;rw[XA,Xc h,List.any_append];simp
theorem qgf(m:za)(x:zf)(g:Nat):Je m x.code g=ZN m x (g:Int):=by
 unfold Je ZN;rw[XV];simp
theorem ql2{m:za}{x:zf}{k:Nat}(hk:k<m.methods.length)(hx:m.methods[k]=x):jU m (k:Int)=jl (fun g=>Je m x.code g) m.methods.length:=by
 have e:zu m (k:Int)=x:=by unfold zu;rw[Xe,Xc hk,hx];rfl
 unfold jU;rw[Xb ⟨by omega,by omega⟩,e,show jF m x m.methods.length=jl (fun g=>ZN m x (g:Int)) m.methods.length from rfl];exact qat fun g _=>(qgf m x g).symm
theorem qrx{l:List Int}{s:Nat}(h:s<l.length)(g:Int):zR (l.take (s+1)) g=(zR (l.take s) g||decide (g=l[s])):=by
 unfold zR;rw[XV,We,Xr,Xr,Xr,XA,Xc h,Xs];simp only[Option.toList_some,XG]
theorem qj8{w w':World}{A:Option Addr}{xs:List Value}{b:Nat}(h:zx w w.heap.size A xs)(hg:w.grownBy w' (some b))(hf:∀ad,A=some ad→ad.block≠b):zx w' w'.heap.size A xs:=fun j u hu=>by
 obtain⟨ad,e,hb,hc⟩:=h j u hu;refine⟨ad,e,Xp hb hg.size,?_⟩;have hk:(ad.add j).block=ad.block:=by rw[zp]
 exact(X7 (hg.block _ (by rw[hk];omega) (fun e'=>hf ad e (by injection e' with e';rw[hk]at e';exact e')))).trans hc
set_option maxHeartbeats 3200000 in
theorem quu(m:za)(f:Int)(h:zg)(w:World)(H:zi w w.heap.size h m)(hn:m.classes.length≤1000)(hml:m.methods.length≤1048576)(hc:∀x ∈m.methods,x.code.length≤1048576):
  Calls Tryz.prog 103 #[zk h m,.int .i64 f] w (vJ (jU m f) w):=by
 by_cases hf:0≤f∧f<m.methods.length
 ·obtain⟨f0,f1⟩:=hf;obtain⟨k,rfl⟩:=Xm f0;have hk:k<m.methods.length:=by omega
  obtain⟨x,hx⟩:∃x,m.methods[k]=x:=⟨_,rfl⟩
  have hxc:=hc x (by rw[←hx];exact Xd hk);have HPK:=zH (ql2 hk hx);obtain⟨L,hL⟩:∃L,jU m (k:Int)=L:=⟨_,rfl⟩
  rw[hL]at HPK⊢
  have hle:=H.methods.le;have hcap:=H.methods.cap;obtain⟨ad,hx',eA,hab,hin,hcc⟩:=jJ H hk;rw[hx]at hin hcc;obtain⟨A0,A1,A2,A3,A4,k0,k1,k2,k3,k4⟩:=h;obtain⟨A0x,A1x,A4x,A7x,k0x,k1x,k4x,k7x⟩:=hx';dsimp only at eA hcap hle;subst eA;have HN:=zH hn;have HW:=zH ((zb w.heap.size w).alloc (zn _) (zo ⟨A0,A1,A2,some ad,A4,k0,k1,k2,k3,k4⟩ m));have HIM:=zH (H.now HW.out);have HBX:=zH (zX w ⟨A0,A1,A2,some ad,A4,k0,k1,k2,k3,k4⟩ m);have HZ:Hid (w.heap.size<(w.alloc (zo ⟨A0,A1,A2,some ad,A4,k0,k1,k2,k3,k4⟩ m)).heap.size):=zH (by simp);have HAB:Hid ((ad.add (k*8)).block<(w.alloc (zo ⟨A0,A1,A2,some ad,A4,k0,k1,k2,k3,k4⟩ m)).heap.size):=zH (by rw[zp];simp;omega);have HMC:=zH (hcc.keep HW.out (by rw[zp];exact hab));have HIN:=zH (hin.now HW.out).code;have ccap:=hin.code.cap;have cle:=hin.code.le;have HR1:Hid ((decide (0≤(k:Int))&& decide ((k:Int)<m.methods.length))=true):=zH (by rw[Xh f0,Xh f1];rfl);dsimp only at ccap cle;have hmm:= @run_makeMap Tryz.prog;clear H hc hin hcc hn hab hx hL f0 f1;go_enter Tryz.func103,Tryz.ntmps103;go_upto_region 1 with fail
  generalize w.alloc (zo ⟨A0,A1,A2,some ad,A4,k0,k1,k2,k3,k4⟩ m)=w1 at*
  have HX0:Hid (Below w1.heap.size w1 w1):=zH (zb _ _);obtain⟨q0,q1,q2,q3,q4,q5,q6⟩:=HBX.out;dsimp only at q0 q1 q2 q3 q4 q5 q6;go_upto_region 4 with(go_at_call 150;(with_reducible refine(q1b HIM HX0 HR1).mono ?_);rintro e w2 ⟨rfl,hb⟩;have HX2:=zH hb;clear hb)
  clear q0 q1 q2 q3 q4 q5 q6;have HM0:=zH (jh.made w2 m.methods.length);have HX3:=zH (HX2.out.alloc HX2.out.size (.map #[] 0));have hB1:=HX2.out.size;generalize w2.alloc (.map #[] 0)=w3 at*
  generalize w2.heap.size=B at*
  obtain⟨q0,q1,q2,q3,q4,q5,q6⟩:=HBX.out.keep HX3.out HZ.out;dsimp only at q0 q1 q2 q3 q4 q5 q6;have c4:=(HMC.out.keep HX3.out HAB.out).c4;dsimp only at c4;go_wp2_with fail
  clear q0 q1 q2 q3 q4 q5 q6 c4;go_loopw [22] (fun i wr=>∃t:Nat,t≤x.code.length∧i= .int .i64 t∧Hid (jh wr B (fun g=>Je m (x.code.take t) g) m.methods.length)∧Hid (Below w1.heap.size w1 wr)) (fun i _=>x.code.length - (intOf i).toNat)
  case atStart=>exact⟨0,Xl _,rfl,HM0,HX3⟩
  case round=>
   clear HM0 HX3 HX2;obtain⟨t,ht,rfl,HM,HX⟩:=hrel;by_cases hlt:t<x.code.length
   ·obtain⟨ac,rfl,hac,i0,i1,i2⟩:=HIN.out.row.at_ hlt;have HT1:=zH (qj6 (m:=m) hlt);generalize x.code[t]=ins at*
    obtain⟨op,a,b⟩:=ins;dsimp only at i0 i1 i2 HT1;obtain⟨T,hT⟩:∃T,qk m op a b=T:=⟨_,rfl⟩
    have hTl:T.length≤1000:=by have:=q3e m op a b HN.out;rw[hT]at this;exact this
    have HTT:=zH hT;rw[hT]at HT1;clear hT;obtain⟨P,hP⟩:∃P,(fun g=>Je m (x.code.take t) g)=P:=⟨_,rfl⟩
    rw[hP]at HM;have HT2:Hid (∀g,Je m (x.code.take (t+1)) g=(P g||zR T (g:Int))):=zH (fun g=>by rw[HT1.out g,←hP]);clear HT1 hP;have hszr:=HX.out.size;have j0:=(HX.out.cell (p:=ac.add (t*3)) (by rw[zp];exact hac)).trans i0;have j1:=(HX.out.cell (p:=zc (ac.add (t*3)) 1) (by show(ac.add (t*3)).block<_;rw[zp];exact hac)).trans i1;have j2:=(HX.out.cell (p:=zc (ac.add (t*3)) 2) (by show(ac.add (t*3)).block<_;rw[zp];exact hac)).trans i2;clear i0 i1 i2 hac;go_upto_region 7 with fail
    clear j0 j1 j2;have HIB:=zH (qa wr [.int .i64 op,.int .i64 a,.int .i64 b] 55);have HA:Hid (Below wr.heap.size wr (wr.alloc (.cells ([.int .i64 op,.int .i64 a,.int .i64 b]:List Value).toArray 55))):=zH ((zb _ _).alloc (zn _) _);have HM4:=zH (HM.out.below HA.out HM.out.lt);have HX4:=zH (HX.out.trans (HA.out.mono hszr));generalize wr.alloc (.cells ([.int .i64 op,.int .i64 a,.int .i64 b]:List Value).toArray 55)=w4 at*
    have i0:=HIB.out 0 _ rfl;have i1:=HIB.out 1 _ rfl;have i2:=HIB.out 2 _ rfl;obtain⟨q0,q1,q2,q3,q4,q5,q6⟩:=HBX.out.keep HX4.out HZ.out;dsimp only at q0 q1 q2 q3 q4 q5 q6;have hB4:=HM4.out.lt;go_wp2_with(go_at_call 151;(with_reducible refine(qpc HIM HX4 HN.out HTT).mono ?_);rintro e w5 ⟨v5,rfl,ho,hb⟩;have HM5:=zH (HM4.out.below hb HM4.out.lt);have HX5:=zH (HX4.out.trans (hb.mono HX4.out.size));obtain⟨A5,c5,rfl,hl5,g1,g2⟩:=ku ho;have HL5:=zH hl5;have HF5:Hid (∀ad,A5=some ad→ad.block≠B):=zH (fun ad e=>by have:=(ho.lt ad.block (by rw[e];rfl)).1;omega);clear hb ho hl5)
    clear q0 q1 q2 q3 q4 q5 q6 i0 i1 i2;go_loopw [30] (fun j wi=>∃s:Nat,s≤T.length∧j= .int .i64 s∧Hid (jh wi B (fun g=>P g||zR (T.take s) (g:Int)) m.methods.length)∧Hid (Below w1.heap.size w1 wi)∧Hid (zx wi wi.heap.size A5 (T.map (Value.int .i64)))) (fun j _=>T.length - (intOf j).toNat)
    case atStart=>exact⟨0,Xl _,rfl,zH (HM5.out.cong (fun g _=>by rw[List.take_zero,qum,Bool.or_false])),HX5,HL5⟩
    case round=>
     clear HM5 HX5 HL5;obtain⟨s,hs,rfl,HMi,HXi,HLi⟩:=hrel;by_cases hst:s<T.length
     ·obtain⟨a5,rfl,hab5,p5⟩:=HLi.out s (.int .i64 T[s]) (by rw[Xx,Xc hst];rfl);have HSN:=zH (fun g:Nat=>qrx hst (g:Int));generalize T[s]=q at*
      obtain⟨q0,q1,q2,q3,q4,q5,q6⟩:=HBX.out.keep HXi.out HZ.out;dsimp only at q0 q1 q2 q3 q4 q5 q6;clear hab5;by_cases hm:0≤q∧q<m.methods.length
      ·obtain⟨m0,m1⟩:=hm;obtain⟨g,rfl⟩:=Xm m0;have HR:Hid ((decide (0≤(g:Int))&& decide ((g:Int)<m.methods.length))=true):=zH (by rw[Xh m0,Xh m1];rfl);have hgm:g<m.methods.length:=by omega
       clear m0 m1;go_wp2_with(first
        |(go_at_call 150;(with_reducible refine(q1b HIM HXi HR).mono ?_);rintro e w6 ⟨rfl,hb⟩;have HM6:=zH (HMi.out.below hb HMi.out.lt);have HX6:=zH (HXi.out.trans (hb.mono HXi.out.size));have HL6:=zH ((HLi.out.below hb).more hb.size);clear hb)
        |(at_mapUpdate;refine q6x _ rfl _ _ _ 203 (.inl rfl) Tryz.underlying203 B m.methods.length g _ rfl HM6.out hgm hml rfl rfl ?_;intro w7 hm7 hg7;have HM7:=zH hm7;have HX7:=zH (HX6.out.grown hg7 HX6.out.size (fun j hj=>by injection hj with hj;omega));have HL7:=zH (qj8 HL6.out hg7 HF5.out);clear hm7 hg7))
       go_roundw;case rel=>exact⟨s+1,by omega,by go_num,zH (HM7.out.cong (fun k _=>by rw[HSN.out k,←Bool.or_assoc];congr 1;exact Wa.mpr (by omega))),HX7,HL7⟩
       case measure=>simp[intOf];omega
      ·have HR:Hid ((decide (0≤q)&& decide (q<m.methods.length))=false):=zH (by rw[X9];simpa using hm);have HNQ:Hid (∀k:Nat,k<m.methods.length→decide ((k:Int)=q)=false):=zH (fun k hk=>Xf (by omega));clear hm;go_wp2_with(go_at_call 150;(with_reducible refine(q1b HIM HXi HR).mono ?_);rintro e w6 ⟨rfl,hb⟩;have HM6:=zH (HMi.out.below hb HMi.out.lt);have HX6:=zH (HXi.out.trans (hb.mono HXi.out.size));have HL6:=zH ((HLi.out.below hb).more hb.size);clear hb)
       go_roundw;case rel=>exact⟨s+1,by omega,by go_num,zH (HM6.out.cong (fun k hk=>by rw[HSN.out k,HNQ.out k hk,Bool.or_false])),HX6,HL6⟩
       case measure=>simp[intOf];omega
     ·obtain rfl:s=T.length:=by omega
      go_wp2_with fail
      go_roundw;case rel=>exact⟨t+1,by omega,by go_num,zH (HMi.out.cong (fun k _=>by rw[HT2.out k,XP])),HXi⟩
      case measure=>simp[intOf];omega
   ·obtain rfl:t=x.code.length:=by omega
    have HL:Hid (jl (fun g=>Je m (x.code.take x.code.length) g) m.methods.length=L):=zH (by rw[XP];exact HPK.out.symm);go_wp2_with(go_at_call 152;(with_reducible refine(qn1 HM hml HL).mono ?_);rintro e w9 ⟨v9,rfl,ho,hb⟩;have HO9:=zH ho;have HX9:=zH (HX.out.trans (hb.mono HX.out.size));have hz9:=HX.out.size;clear ho hb)
    go_ret;exact⟨v9,rfl,jc HO9.out (Xg HW.out.size hz9),HW.out.trans (HX9.out.mono HW.out.size)⟩
 ·have HR1:Hid ((decide (0≤f)&& decide (f<m.methods.length))=false):=zH (by rw[X9];simpa using hf);rw[qsq hf];have HW:=zH ((zb w.heap.size w).alloc (zn _) (zo h m));have HIM:=zH (H.now HW.out);have HBX:=zH (zX w h m);clear H hf hc;go_enter Tryz.func103,Tryz.ntmps103;go_upto_region 1 with fail
  generalize w.alloc (zo h m)=w1 at*
  have HX0:Hid (Below w1.heap.size w1 w1):=zH (zb _ _);obtain⟨q0,q1,q2,q3,q4,q5,q6⟩:=HBX.out;go_wp2_with(go_at_call 150;(with_reducible refine(q1b HIM HX0 HR1).mono ?_);rintro e w2 ⟨rfl,hb⟩;have HX2:=zH hb;clear hb)
  go_ret;exact⟨_,rfl,XT _ _ _ _,HW.out.trans (HX2.out.mono HW.out.size)⟩
theorem quv(m:za)(f:Int)(h:zg)(w:World)(H:zi w w.heap.size h m)(hn:m.classes.length≤1000)(hml:m.methods.length≤1048576)(hc:∀x ∈m.methods,x.code.length≤1048576):
  Calls Tryz.prog 103 #[zk h m,.int .i64 f] w fun e w'=>∃A c,e= .returned (.slice A (jU m f).length c)∧zd zq 1 w' w'.heap.size A c (jU m f)∧(∀ad,A=some ad→w.heap.size≤ad.block)∧Below w.heap.size w w':=
 (quu m f h w H hn hml hc).mono fun e w' hO=>by
  obtain⟨v,rfl,ho,hb⟩:=hO;obtain⟨A,c,rfl,hl,h1,h2⟩:=ku ho;exact⟨A,c,rfl,⟨h1,h2,fun i x hi=>by
   obtain⟨ad,e,hb,hc⟩:=hl i (.int .i64 x) (by rw[Xx,hi];rfl);exact⟨ad,e,hb,by show w'.cell? (ad.add (i*1))=_;rw[Xq];exact hc⟩⟩,fun ad e=>(ho.lt ad.block (by rw[e];rfl)).1,hb⟩
theorem qe6{m:za}{f:Int}{h:zg}{w0 w:World}{L:List Int}(HI:Hid (zi w0 w0.heap.size h m))(HX:Hid (Below w0.heap.size w0 w))(HC:Hid (m.classes.length≤1000∧m.methods.length≤1048576∧∀x ∈m.methods,x.code.length≤1048576))(HR:Hid (jU m f=L)):
  Calls Tryz.prog 103 #[zk h m,.int .i64 f] w fun e w'=>∃A c,e= .returned (.slice A L.length c)∧zd zq 1 w' w'.heap.size A c L∧(∀ad,A=some ad→w.heap.size≤ad.block)∧Below w.heap.size w w':=by
 have H:=quv m f h w (HI.out.now HX.out) HC.out.1 HC.out.2.1 HC.out.2.2;rw[HR.out]at H;exact H
set_option maxHeartbeats 3200000 in
theorem qkk(m:za)(h:zg)(w:World)(H:zi w w.heap.size h m)(hn:m.classes.length≤1000)(hml:m.methods.length≤1000)(hc:∀x ∈m.methods,x.code.length≤1048576):
  Calls Tryz.prog 58 #[zk h m] w fun e w'=>∃g,e= .returned (.slice (some ⟨g,0,none⟩) m.methods.length m.methods.length)∧w.heap.size≤g∧g<w'.heap.size∧zd (zG zq 1) 1 w' w'.heap.size (some ⟨g,0,none⟩) m.methods.length (jv m)∧Below w.heap.size w w':=by
 obtain⟨i0,hi,hz0,hz1,hz2⟩:=qQ q4y;have HW:=zH ((zb w.heap.size w).alloc (zn _) (zo h m));have HI:=zH (H.now HW.out);have HBX:=zH (zX w h m);have HZ:Hid (w.heap.size<(w.alloc (zo h m)).heap.size):=zH (by simp);have HCO:Hid (m.classes.length≤1000∧m.methods.length≤1048576∧∀x ∈m.methods,x.code.length≤1048576):=zH ⟨hn,by omega,hc⟩;obtain⟨n,hnn⟩:∃n,m.methods.length=n:=⟨_,rfl⟩
 have HN:=zH hnn;have HEL:Hid (∀k,k<n→(jv m)[k]? =some (jU m (k:Int))):=zH (fun k hk=>qd8 (by omega));have HEN:Hid ((jv m).length=n):=zH (by rw[q27];exact hnn);rw[hnn]at hml⊢
 have hcap:=H.methods.cap;have hle:=H.methods.le;rw[hnn]at hle;clear H hc hnn;go_enter Tryz.func58,Tryz.ntmps58;go_upto_region 1 with fail
 generalize w.alloc (zo h m)=w1 at*
 obtain⟨q0,q1,q2,q3,q4,q5,q6⟩:=HBX.out;rw[HN.out]at q3;go_wp2_with(at_make;(refine wpList_make_full _ rfl _ _ 56 rfl w1.heap.size 26 i0 (.slice none 0 0) 1 Tryz.underlying56 hi hz0 hz1 .i64 .i64 _ _ n rfl rfl rfl rfl (by rw[hz2];omega) (by unfold maxLen;omega) (zn _) ?_);intro w2 hown hgrow;have HO2:=zH hown;have HB2:=zH ((zb w1.heap.size w1).grown hgrow (zn _) (fun k hk=>by cases hk));clear hown hgrow)
 have HG2:Hid (Zg w2 w1.heap.size (jv m) n 0 (List.replicate n (.slice none 0 0))):=zH (by
  have h1:=Yx HO2.out;rw[JX (v:= .slice none 0 0) rfl]at h1;exact⟨h1,Wq ..,fun i L hi _=>by omega,fun i _ hi=>by rw[Wn,Xb hi]⟩)
 clear q0 q1 q2 q3 q4 q5 q6 HO2;try simp only[HN.out]
 go_loopw [11] (fun i wr=>∃(k:Nat) (vs:List Value),k≤n∧i= .int .i64 k∧Hid (Zg wr w1.heap.size (jv m) n k vs)∧Hid (Below w1.heap.size w1 wr)) (fun i _=>n - (intOf i).toNat)
 case atStart=>exact⟨0,_,by omega,rfl,HG2,HB2⟩
 case round=>
  clear HG2 HB2;obtain⟨k,vs,hk,rfl,HG,HX⟩:=hrel;by_cases hlt:k<n
  ·obtain⟨q0,q1,q2,q3,q4,q5,q6⟩:=HBX.out.keep HX.out HZ.out;obtain⟨L,hL⟩:∃L,jU m (k:Int)=L:=⟨_,rfl⟩
   have HL:=zH hL;have HLE:Hid ((jv m)[k]? =some L):=zH (by rw[HEL.out k hlt,hL]);clear hL;go_wp2_with(go_at_call 103;(with_reducible refine(qe6 HI HX HCO HL).mono ?_);rintro e w5 ⟨A5,c5,rfl,hs,hA,hb⟩;have HS5:=zH hs;have HA5:Hid (∀ad,A5=some ad→w1.heap.size<ad.block):=zH (fun ad e=>by have h1:=hA ad e;have h2:=ze.lt HG.out.blk;omega);have HG5:=zH (HG.out.keep hb);have HX5:=zH (HX.out.trans (hb.mono HX.out.size));obtain⟨v0,c0⟩:=HG5.out.cell hlt;have f0:=ze.free HG5.out.blk k;clear hs hA hb)
   go_roundw;case rel=>exact⟨k+1,_,by omega,by go_num,zH (HG5.out.put hlt HLE.out HS5.out HA5.out),zH (HX5.out.setCell (p:=⟨w1.heap.size,k,none⟩) (zn _) _)⟩
   case measure=>simp[intOf];omega
  ·go_wp2_with fail
   go_ret;exact⟨w1.heap.size,rfl,Xk HZ.out,ze.lt HG.out.blk,HG.out.slc HEN.out (by omega) (by omega),HW.out.trans (HX.out.mono (Xk HZ.out))⟩
theorem qp0{m:za}{h:zg}{n:Nat}{EL:List (List Int)}{w0 w:World}(HI:Hid (zi w0 w0.heap.size h m))(HX:Hid (Below w0.heap.size w0 w))(HC:Hid (m.classes.length≤1000∧m.methods.length≤1000∧∀x ∈m.methods,x.code.length≤1048576))(HN:Hid (m.methods.length=n))(HE:Hid (jv m=EL)):
  Calls Tryz.prog 58 #[zk h m] w fun e w'=>∃g,e= .returned (.slice (some ⟨g,0,none⟩) n n)∧w.heap.size≤g∧g<w'.heap.size∧zd (zG zq 1) 1 w' w'.heap.size (some ⟨g,0,none⟩) n EL∧Below w.heap.size w w':=by
 have H:=qkk m h w (HI.out.now HX.out) HC.out.1 HC.out.2.1 HC.out.2.2;rw[HN.out,HE.out]at H;exact H
def QE(maps:List (List zm))(f:Int):Int:=if 0≤f then(vi (maps[f.toNat]?.getD []):Nat)else 0
set_option maxHeartbeats 3200000 in
theorem qly(maps:List (List zm))(f:Int)(A:Option Addr)(c:Nat)(w:World)(hM:zd (zG jp 2) 1 w w.heap.size A c maps)(hz:vK 4000 maps):
  Calls Tryz.prog 155 #[.slice A maps.length c,.int .i64 f] w fun e w'=>e= .returned (.int .i64 (QE maps f))∧Below w.heap.size w w':=by
 have HM0:=zH hM;have HMZ:=zH hz;have hl1:=hM.le;have hl2:=hM.cap;clear hM hz;by_cases h0:0≤f;rotate_left
 ·have hlt:f<0:=by omega
  have e:QE maps f=0:=by unfold QE;rw[Xa h0]
  rw[e];clear e;go_enter Tryz.func155,Tryz.ntmps155;go_wp2_with fail
  go_ret;exact⟨rfl,zb _ _⟩
 by_cases h1:f<maps.length;rotate_left
 ·have hlt:¬f<0:=by omega
  have hge:f ≥ (maps.length:Int):=by omega
  have e:QE maps f=0:=by unfold QE;rw[Xb h0,Xu (by omega)];rfl
  rw[e];clear e;go_enter Tryz.func155,Tryz.ntmps155;go_wp2_with fail
  go_ret;exact⟨rfl,zb _ _⟩
 obtain⟨k,rfl⟩:=Xm h0;have hk:k<maps.length:=by omega
 have i0:¬(k:Int)<0:=by omega
 have i1:¬(k:Int) ≥ (maps.length:Int):=by omega
 obtain⟨S,hS⟩:∃S,maps[k]=S:=⟨_,rfl⟩
 have HR:Hid (QE maps (k:Int)=(vi S:Nat)):=zH (by unfold QE;rw[Xb h0,Xe,Xc hk,hS];rfl);obtain⟨adM,rfl,habM,A1,cS,r0,hsr⟩:=HM0.out.row.at_ hk;rw[hS]at r0 hsr;rw[Xq]at r0;have hSZ:∀s ∈S,s.stack.length≤4000:=by rw[←hS];exact(HMZ.out maps[k] (Xd hk)).2
 have HSZ:=zH hSZ;have HSR:=zH hsr;have hs1:=hsr.le;have hs2:=hsr.cap;obtain⟨r,hr⟩:∃r,QE maps (k:Int)=r:=⟨_,rfl⟩
 rw[hr]at HR⊢
 clear h0 h1 hS hsr hSZ hr;have HX0:Hid (Below w.heap.size w w):=zH (zb _ _);go_enter Tryz.func155,Tryz.ntmps155;go_wp2_with fail
 clear r0;go_loopw [5,21] (fun d i wr=>∃pc:Nat,pc≤S.length∧i= .int .i64 pc∧d= .int .i64 (vi (S.take pc):Nat)∧Hid (Below w.heap.size w wr)) (fun _ i _=>S.length - (intOf i).toNat)
 case atStart=>exact⟨0,Xl _,rfl,rfl,HX0⟩
 case round=>
  clear HX0;obtain⟨pc,hpc,rfl,rfl,HX⟩:=hrel;obtain⟨D,hD⟩:∃D,vi (S.take pc)=D:=⟨_,rfl⟩
  have hDl:D≤4000:=by rw[←hD];exact q0o (fun s hs=>HSZ.out s (List.mem_of_mem_take hs))
  have HD:=zH hD;by_cases hp:pc<S.length
  ·obtain⟨adS,rfl,habS,s0,At,ct,s1,hst⟩:=HSR.out.row.at_ hp;have HT:Hid (vi (S.take (pc+1))=Ja D S[pc]):=zH (by rw[qbp hp,hD]);have hsl:=HSZ.out S[pc] (Xd hp);generalize S[pc]=s at*
   have ht1:=hst.le;have ht2:=hst.cap;have s0:=(HX.out.cell (p:=adS.add (pc*2)) (by rw[zp];exact habS)).trans s0;have s1:=(HX.out.cell (p:=zc (adS.add (pc*2)) 1) (by show(adS.add (pc*2)).block<_;rw[zp];exact habS)).trans s1;have hsz:=HX.out.size;rw[hD];clear hD hst habS;by_cases hg:D<s.stack.length
   ·have hgi:(s.stack.length:Int)>(D:Int):=by omega
    have hmx:max (D:Int) (s.stack.length:Int)=(s.stack.length:Int):=by omega
    have HY:Hid (vi (S.take (pc+1))=s.stack.length):=zH (by rw[HT.out];unfold Ja;rw[Xb hg]);go_wp2_with fail
    go_roundw;case rel=>exact⟨pc+1,by omega,by go_num,by rw[HY.out],zH (HX.out.alloc hsz _)⟩
    case measure=>simp[intOf];omega
   ·have hgi:¬(s.stack.length:Int)>(D:Int):=by omega
    have hmx:max (D:Int) (s.stack.length:Int)=(D:Int):=by omega
    have HY:Hid (vi (S.take (pc+1))=D):=zH (by rw[HT.out];unfold Ja;rw[Xa hg]);go_wp2_with fail
    go_roundw;case rel=>exact⟨pc+1,by omega,by go_num,by rw[HY.out],zH (HX.out.alloc hsz _)⟩
    case measure=>simp[intOf];omega
  ·have hpi:¬(pc:Int)<(S.length:Int):=by omega
   have HF:Hid (r=(D:Int)):=zH (by rw[HR.out,←HD.out,XH (by omega)]);rw[hD];clear hD;go_wp2_with fail
   go_ret;exact⟨by rw[HF.out];first|rfl|done,HX.out⟩
theorem qqd{maps:List (List zm)}{f r:Int}{A:Option Addr}{c n:Nat}{w:World}(HS:Hid (zd (zG jp 2) 1 w w.heap.size A c maps))(HZ:Hid (vK 4000 maps))(HN:Hid (maps.length=n))(HR:Hid (QE maps f=r)):
  Calls Tryz.prog 155 #[.slice A n c,.int .i64 f] w fun e w'=>e= .returned (.int .i64 r)∧Below w.heap.size w w':=by
 obtain rfl:=HN.out;have H:=qly maps f A c w HS.out HZ.out;rw[HR.out]at H;exact H
set_option maxHeartbeats 3200000 in
theorem qkl(m:za)(maps:List (List zm))(f:Int)(A:Option Addr)(c:Nat)(h:zg)(w:World)(H:zi w w.heap.size h m)(hm:zK m)(hM:zd (zG jp 2) 1 w w.heap.size A c maps)(hz:vK 4000 maps):
  Calls Tryz.prog 106 #[zk h m,.slice A maps.length c,.int .i64 f] w fun e w'=>e= .returned (.int .i64 (qO m maps f))∧Below w.heap.size w w':=by
 have HW:=zH (jz (w:=w) (h:=h) (m:=m));have HBX:=zH (zX w h m);have HI:=zH (H.now HW.out);have HM0:=zH (qX RowAt.keeps hM HW.out);have HMZ:=zH hz;have HM:=zH hm;have hle:=H.methods.le;have hcap:=H.methods.cap;have hl1:=hM.le;have hl2:=hM.cap;clear H hM hz hm;by_cases h0:0≤f;rotate_left
 ·have hlt:f<0:=by omega
  have e:qO m maps f=0:=by unfold qO;rw[Xa (by omega)]
  rw[e];clear e;go_enter Tryz.func106,Tryz.ntmps106;go_upto_region 1 with fail
  generalize w.alloc (zo h m)=w1 at*
  obtain⟨q0,q1,q2,q3,q4,q5,q6⟩:=HBX.out;go_wp2_with fail
  go_ret;exact⟨rfl,HW.out⟩
 by_cases h1:f<m.methods.length;rotate_left
 ·have hlt:¬f<0:=by omega
  have hge:f ≥ (m.methods.length:Int):=by omega
  have e:qO m maps f=0:=by unfold qO;rw[Xa (by omega)]
  rw[e];clear e;go_enter Tryz.func106,Tryz.ntmps106;go_upto_region 1 with fail
  generalize w.alloc (zo h m)=w1 at*
  obtain⟨q0,q1,q2,q3,q4,q5,q6⟩:=HBX.out;go_wp2_with fail
  go_ret;exact⟨rfl,HW.out⟩
 obtain⟨k,rfl⟩:=Xm h0;have hkm:k<m.methods.length:=by omega
 have i0:¬(k:Int)<0:=by omega
 have i1:¬(k:Int) ≥ (m.methods.length:Int):=by omega
 obtain⟨ad,hx,eA,hab,hin,hc⟩:=jJ HI.out hkm;obtain⟨D,hD⟩:∃D,vi (maps[k]?.getD [])=D:=⟨_,rfl⟩
 have hfr:qO m maps (k:Int)=3+m.methods[k].args.length+m.methods[k].locals.length+D:=by
  unfold qO zu;rw[Xb ⟨h0,h1⟩,Xe,hD,Xc hkm];rfl
 have HDE:Hid (QE maps (k:Int)=(D:Int)):=zH (by unfold QE;rw[Xb h0,Xe,hD]);have hall:=(HM.out.method (Xd hkm)).all;have hd0:D≤4000:=by
  rw[←hD];cases hs:maps[k]? with
  |none=>exact Xl _
  |some S=>exact q0o (fun s hs'=>(HMZ.out S (Xo hs)).2 s hs')
 have ha1:=hin.args.cap;have ha2:=hin.args.le;have ha3:=hin.locals.cap;have ha4:=hin.locals.le;obtain⟨A0,Ab,A2,A3,A4,k0,k1,k2,k3,k4⟩:=h;obtain⟨A0x,A1x,A4x,A7x,k0x,k1x,k4x,k7x⟩:=hx;dsimp only at eA hle hcap ha1 ha2 ha3 ha4;subst eA;have HMC:=zH hc;have HAB:Hid ((ad.add (k*8)).block<(w.alloc (zo ⟨A0,Ab,A2,some ad,A4,k0,k1,k2,k3,k4⟩ m)).heap.size):=zH (by rw[zp];exact hab);generalize m.methods[k]=x at*
 clear h0 h1 hin hD hc;have HF:=zH hfr;obtain⟨b,hb⟩:∃b,qO m maps (k:Int)=b:=⟨_,rfl⟩
 rw[hb]at HF⊢
 clear hfr hb;obtain⟨nm,hnm⟩:∃z,maps.length=z:=⟨_,rfl⟩
 have HMN:=zH hnm;rw[hnm]at hl1⊢
 clear hnm;go_enter Tryz.func106,Tryz.ntmps106;go_upto_region 1 with fail
 generalize w.alloc (zo ⟨A0,Ab,A2,some ad,A4,k0,k1,k2,k3,k4⟩ m)=w1 at*
 obtain⟨q0,q1,q2,q3,q4,q5,q6⟩:=HBX.out;obtain⟨c0,c1,c2,c3,c4,c5,c6,c7⟩:=HMC.out;dsimp only at c0 c1 c2 c3 c4 c5 c6 c7;go_upto_region 4 with fail
 have HCN:=zH (qa w1 [.slice A0x x.args.length k0x,.slice A1x x.locals.length k1x,.int .i64 x.ret.1,.int .i64 x.ret.2,.slice A4x x.code.length k4x,.int .i64 x.depth,.int .i64 x.pot,.slice A7x x.phi.length k7x] 53);have HA2:Hid (Below w1.heap.size w1 (w1.alloc (.cells ([.slice A0x x.args.length k0x,.slice A1x x.locals.length k1x,.int .i64 x.ret.1,.int .i64 x.ret.2,.slice A4x x.code.length k4x,.int .i64 x.depth,.int .i64 x.pot,.slice A7x x.phi.length k7x]:List Value).toArray 53))):=zH ((zb _ _).alloc (zn _) _);have HZ2:Hid (w1.heap.size<(w1.alloc (.cells ([.slice A0x x.args.length k0x,.slice A1x x.locals.length k1x,.int .i64 x.ret.1,.int .i64 x.ret.2,.slice A4x x.code.length k4x,.int .i64 x.depth,.int .i64 x.pot,.slice A7x x.phi.length k7x]:List Value).toArray 53)).heap.size):=zH (by simp);generalize w1.alloc (.cells ([.slice A0x x.args.length k0x,.slice A1x x.locals.length k1x,.int .i64 x.ret.1,.int .i64 x.ret.2,.slice A4x x.code.length k4x,.int .i64 x.depth,.int .i64 x.pot,.slice A7x x.phi.length k7x]:List Value).toArray 53)=w2 at*
 have HAD:Hid (Below w1.heap.size w1 w2.drew):=zH HA2.out.drew;have HSM:Hid (zd (zG jp 2) 1 w2.drew w2.drew.heap.size A c maps):=zH (qX RowAt.keeps HM0.out HAD.out);have HKP:Hid (∀W,Below w2.drew.heap.size w2.drew W→(fun w'=>w'.cell? ⟨w1.heap.size,0,none⟩=some (.slice A0x x.args.length k0x)∧w'.cell? ⟨w1.heap.size,1,none⟩=some (.slice A1x x.locals.length k1x)) W):=zH (fun W hW=>by
  have hz:w1.heap.size<w2.drew.heap.size:=HZ2.out;exact⟨(hW.cell (p:=⟨w1.heap.size,0,none⟩) hz).trans (HCN.out 0 _ rfl),(hW.cell (p:=⟨w1.heap.size,1,none⟩) hz).trans (HCN.out 1 _ rfl)⟩)
 have HRF:Hid (Below w2.drew.heap.size w2.drew w2.drew):=zH (zb _ _);clear q0 q1 q2 q3 q4 q5 q6 c0 c1 c2 c3 c4 c5 c6 c7;go_region_held3 (fun w'=>w'.cell? ⟨w1.heap.size,0,none⟩=some (.slice A0x x.args.length k0x)∧w'.cell? ⟨w1.heap.size,1,none⟩=some (.slice A1x x.locals.length k1x)) (first|exact HKP.out _ HRF.out|exact HKP.out _ HX5.out) (first
  |(go_at_call 155;(with_reducible refine(qqd HSM HMZ HMN HDE).mono ?_);rintro e w5 ⟨rfl,hb⟩;have HX5:=zH hb;clear hb))
 go_wp2_with fail
 go_ret;have E1:IntKind.i64.wrap (3+(x.args.length:Int))=3+(x.args.length:Int):=by rw[IntKind.wrap_i64];omega
 have E2:IntKind.i64.wrap (3+(x.args.length:Int)+(x.locals.length:Int))=3+(x.args.length:Int)+(x.locals.length:Int):=by rw[IntKind.wrap_i64];omega
 have E3:IntKind.i64.wrap (3+(x.args.length:Int)+(x.locals.length:Int)+(D:Int))=3+(x.args.length:Int)+(x.locals.length:Int)+(D:Int):=by rw[IntKind.wrap_i64];omega
 exact⟨by rw[HF.out];simp[E1,E2,E3],HW.out.trans ((HAD.out.trans (HX5.out.mono HAD.out.size)).mono HW.out.size)⟩
theorem q9q{m:za}{maps:List (List zm)}{f r:Int}{A:Option Addr}{c n:Nat}{h:zg}{w0 w:World}(HI:Hid (zi w0 w0.heap.size h m))(HX:Hid (Below w0.heap.size w0 w))(HM:Hid (zK m))(HS:Hid (zd (zG jp 2) 1 w w.heap.size A c maps))(HZ:Hid (vK 4000 maps))(HN:Hid (maps.length=n))(HR:Hid (qO m maps f=r)):
  Calls Tryz.prog 106 #[zk h m,.slice A n c,.int .i64 f] w fun e w'=>e= .returned (.int .i64 r)∧Below w.heap.size w w':=by
 obtain rfl:=HN.out;have H:=qkl m maps f A c h w (HI.out.now HX.out) HM.out HS.out HZ.out;rw[HR.out]at H;exact H
def jC(m:za)(cyc:Bool)(g:Nat):Int:=if cyc=true then(zu m (g:Int)).depth else 1
def kR(m:za)(maps:List (List zm))(cyc:Bool)(g:Nat):Int:=jC m cyc g*qO m maps (g:Int)
theorem qj4{m:za}{cyc:Bool}{p:List Nat}{k:Nat}(h:k<p.length)(h0:∀g ∈p.take k,jC m cyc g≠0)(h1:jC m cyc p[k]≠0):∀g ∈p.take (k+1),jC m cyc g≠0:=fun g hg=>by
 rw[XA,Xc h,Xs]at hg;rcases hg with q|q
 ·exact h0 g q
 ·simp at q;rw[q];exact h1
def qdl(m:za)(maps:List (List zm))(cyc:Bool)(p:List Nat)(w:World)(e:Ending)(w':World):Prop:=
 ∃(s:Int) (ok:Bool),e= .returned (.tuple #[.int .i64 s,.bool ok])∧(ok=false→∃g ∈p,jC m cyc g=0)∧(ok=true→(∀g ∈p,jC m cyc g≠0)∧s=vP (kR m maps cyc) p)∧Below w.heap.size w w'
theorem qaz{m:za}{cyc:Bool}(hm:zK m){g:Nat}(hg:g<m.methods.length):0≤jC m cyc g∧jC m cyc g≤8:=by
 have hx:zu m (g:Int) ∈m.methods:=by unfold zu;rw[Xe,Xc hg];exact Xd hg
 have h1:=(hm.method hx).fits.d0;have h2:=(hm.method hx).fits.d1;unfold jC;split<;>omega
theorem q52{m:za}{maps:List (List zm)}{cyc:Bool}(hm:zK m)(hz:vK 4000 maps)(g:Nat):0≤kR m maps cyc g∧kR m maps cyc g≤32088:=by
 unfold kR;rcases Xj g m.methods.length with q|q
 ·have h1:=qaz (cyc:=cyc) hm q;have h2:=q25 (f:=(g:Int)) hm hz;have h3:0≤qO m maps (g:Int):=q08;have h4:jC m cyc g*qO m maps (g:Int)≤8*4011:=Int.mul_le_mul h1.2 h2 h3 (by omega);exact⟨Int.mul_nonneg h1.1 h3,by omega⟩
 ·have:qO m maps (g:Int)=0:=by unfold qO;rw[Xa (by omega)]
  rw[this,Int.mul_zero];omega
set_option maxHeartbeats 6400000 in
theorem qkm(m:za)(maps:List (List zm))(cyc:Bool)(p:List Nat)(A R:Option Addr)(c cr:Nat)(h:zg)(w:World)(H:zi w w.heap.size h m)(hm:zK m)(hM:zd (zG jp 2) 1 w w.heap.size A c maps)(hz:vK 4000 maps)
  (hR:zx w w.heap.size R (zP p)) (hp:∀g ∈p,g<m.methods.length) (hpl:p.length≤12):
  Calls Tryz.prog 60 #[zk h m,.slice A maps.length c,.slice R p.length cr,.bool cyc] w (qdl m maps cyc p w):=by
 have HW:=zH (jz (w:=w) (h:=h) (m:=m));have HBX:=zH (zX w h m);have HZ:Hid (w.heap.size<(w.alloc (zo h m)).heap.size):=zH (by simp);have HI:=zH (H.now HW.out);have HM0:=zH (qX RowAt.keeps hM HW.out);have HR0:Hid (zx (w.alloc (zo h m)) (w.alloc (zo h m)).heap.size R (zP p)):=zH ((hR.below HW.out).more HW.out.size);have HMZ:=zH hz;have HM:=zH hm;have HP:=zH hp;have hle:=H.methods.le;have hcap:=H.methods.cap;have hl1:=hM.le;have hl2:=hM.cap;obtain⟨nm,hnm⟩:∃z,maps.length=z:=⟨_,rfl⟩
 have HMN:=zH hnm;rw[hnm]at hl1⊢
 clear H hM hz hm hR hp hnm;have HX0:Hid (Below (w.alloc (zo h m)).heap.size (w.alloc (zo h m)) (w.alloc (zo h m))):=zH (zb _ _);go_enter Tryz.func60,Tryz.ntmps60;go_upto_region 1 with fail
 generalize w.alloc (zo h m)=w1 at*
 go_wp2_with fail
 go_loopw [8,15] (fun s i wr=>∃k:Nat,k≤p.length∧i= .int .i64 k∧s= .int .i64 (vP (kR m maps cyc) (p.take k))∧Hid (∀g ∈p.take k,jC m cyc g≠0)∧Hid (Below w1.heap.size w1 wr)) (fun _ i _=>p.length - (intOf i).toNat)
 case atStart=>exact⟨0,Xl _,rfl,rfl,zH (fun g hg=>by cases hg),HX0⟩
 case round=>
  clear HX0;obtain⟨k,hk,rfl,rfl,HNE,HX⟩:=hrel;have HSM:=zH (qX RowAt.keeps HM0.out HX.out);obtain⟨q0,q1,q2,q3,q4,q5,q6⟩:=HBX.out.keep HX.out HZ.out;obtain⟨S,hS⟩:∃z,vP (kR m maps cyc) (p.take k)=z:=⟨_,rfl⟩
  have hSl:=q3f (C:=kR m maps cyc) (c:=p.take k) (M:=32088) (by omega) (q52 HM.out HMZ.out);rw[hS]at hSl;have hSt:((p.take k).length:Int)*32088≤12*32088:=Int.mul_le_mul_of_nonneg_right (by rw[XU];omega) (by omega);obtain⟨hS0,hS1⟩:=hSl;have hS2:S≤385056:=by omega
  have HS:=zH hS;rw[hS];clear hS hSt hS1;by_cases hlt:k<p.length
  ·obtain⟨g,hg⟩:∃g,p[k]=g:=⟨_,rfl⟩
   have hgm:=HP.out p[k] (Xd hlt);obtain⟨ar,rfl,har,r0⟩:=HR0.out k (.int .i64 (g:Int)) (by unfold zP;rw[Xx,Xc hlt,hg];rfl);have r0:=(HX.out.cell (p:=ar.add k) (by rw[zp];exact har)).trans r0;have HTK:Hid (vP (kR m maps cyc) (p.take (k+1))=S+kR m maps cyc g):=zH (by rw[qm6 hlt,HS.out,hg]);have HNX:Hid (jC m cyc g≠0→∀g ∈p.take (k+1),jC m cyc g≠0):=zH (fun h=>qj4 hlt HNE.out (by rw[hg];exact h));have HGP:Hid (g ∈p):=zH (by rw[←hg];exact Xd hlt);rw[hg]at hgm;obtain⟨ad,hx,eA,hab,hin,hc⟩:=jJ HI.out hgm;have c5:=(HX.out.cell (p:=zc (ad.add (g*8)) 5) (by show(ad.add _).block<_;rw[zp];exact hab)).trans hc.c5;have hmn:zu m (g:Int)=m.methods[g]:=by unfold zu;rw[Xe,Xc hgm];rfl
   have hxd:=(HM.out.method (Xd hgm)).fits.d0;have hxd1:=(HM.out.method (Xd hgm)).fits.d1;have HOF:Hid (jC m cyc g=if cyc=true then m.methods[g].depth else 1):=zH (by unfold jC;rw[hmn]);generalize m.methods[g]=x at*
   clear q0 q1 q2 q3 q4 q5 q6;obtain⟨A0,Ab,A2,A3,A4,k0,k1,k2,k3,k4⟩:=h;dsimp only at eA hle hcap;subst eA;obtain⟨q0,q1,q2,q3,q4,q5,q6⟩:=HBX.out.keep HX.out HZ.out;obtain⟨FR,hFR⟩:∃z,qO m maps (g:Int)=z:=⟨_,rfl⟩
   have HFR:=zH hFR;have hF0:0≤FR:=by rw[←hFR];exact q08
   have hF1:FR≤4011:=by rw[←hFR];exact q25 HM.out HMZ.out
   clear hg hin hc hmn hFR har hab;cases cyc
   ·have HO1:Hid (jC m false g=1):=zH (by rw[HOF.out];rfl);have HCC:Hid (kR m maps false g=(1:Int)*FR):=zH (by unfold kR;rw[HO1.out,HFR.out]);go_wp2_with(go_at_call 106;(with_reducible refine(q9q HI HX HM HSM HMZ HMN HFR).mono ?_);rintro e w5 ⟨rfl,hb⟩;have HX5:=zH (HX.out.trans (hb.mono HX.out.size));clear hb)
    go_roundw;case rel=>exact⟨k+1,by omega,by go_num,by rw[HTK.out,HCC.out];first|rfl|simp,zH (HNX.out (by rw[HO1.out];decide)),HX5⟩
    case measure=>simp[intOf];omega
   have HO1:Hid (jC m true g=x.depth):=zH (by rw[HOF.out];rfl);have HCC:Hid (kR m maps true g=x.depth*FR):=zH (by unfold kR;rw[HO1.out,HFR.out]);have hP0:0≤x.depth*FR:=by rw[←HCC.out];exact(q52 HM.out HMZ.out g).1
   have hP1:x.depth*FR≤32088:=by rw[←HCC.out];exact(q52 HM.out HMZ.out g).2
   generalize x.depth=D at*
   by_cases hd:D=0
   ·have HD0:Hid (jC m true g=0):=zH (HO1.out.trans hd);subst hd;go_wp2_with fail
    refine Xn (v:= .tuple #[.int .i64 0,.bool false]) (by simp[results,Tryz.results60,go_sem]) rfl ?_;exact⟨0,false,rfl,fun _=>⟨g,HGP.out,HD0.out⟩,(fun e=>by cases e),HW.out.trans (HX.out.mono (Xk HZ.out))⟩
   ·have hd0:(D==0)=false:=by simpa using hd
    go_wp2_with(go_at_call 106;(with_reducible refine(q9q HI HX HM HSM HMZ HMN HFR).mono ?_);rintro e w5 ⟨rfl,hb⟩;have HX5:=zH (HX.out.trans (hb.mono HX.out.size));clear hb)
    go_roundw;case rel=>exact⟨k+1,by omega,by go_num,by rw[HTK.out,HCC.out],zH (HNX.out (by rw[HO1.out];exact hd)),HX5⟩
    case measure=>simp[intOf];omega
  ·obtain rfl:k=p.length:=by omega
   have HF:Hid (S=vP (kR m maps cyc) p):=zH (by rw[←HS.out,XP]);have HNF:Hid (∀g ∈p,jC m cyc g≠0):=zH (by have:=HNE.out;rwa [XP]at this);go_wp2_with fail
   refine Xn (v:= .tuple #[.int .i64 S,.bool true]) (by simp[results,Tryz.results60,go_sem]) rfl ?_;exact⟨S,true,rfl,(fun e=>by cases e),fun _=>⟨HNF.out,HF.out⟩,HW.out.trans (HX.out.mono (Xk HZ.out))⟩
theorem qp1{m:za}{maps:List (List zm)}{cyc:Bool}{p:List Nat}{A R:Option Addr}{c cr n k:Nat}{h:zg}{w0 w:World}(HI:Hid (zi w0 w0.heap.size h m))(HX:Hid (Below w0.heap.size w0 w))(HM:Hid (zK m))(HS:Hid (zd (zG jp 2) 1 w w.heap.size A c maps))(HZ:Hid (vK 4000 maps))(HN:Hid (maps.length=n))
  (HR:Hid (zx w w.heap.size R (zP p))) (HP:Hid ((∀g ∈p,g<m.methods.length)∧p.length≤12)) (HK:Hid (p.length=k)):
  Calls Tryz.prog 60 #[zk h m,.slice A n c,.slice R k cr,.bool cyc] w (qdl m maps cyc p w):=by
 obtain rfl:=HN.out;obtain rfl:=HK.out;exact qkm m maps cyc p A R c cr h w (HI.out.now HX.out) HM.out HS.out HZ.out HR.out HP.out.1 HP.out.2
theorem qmc{EL:List (List Int)}{n:Nat}{E:Option Addr}{ce:Nat}{w:World}(hE:Hid (zd (zG zq 1) 1 w w.heap.size E ce EL))(hn:Hid (EL.length=n))(hl:n≤12)(he:Hid (∀l ∈EL,l.length≤1048576)):
  Calls Tryz.prog 59 #[.slice E n ce] w (qdj EL n w):=
 qhi EL n E ce w hE.out hn.out (by omega) he.out
theorem qhp{EL:List (List Int)}{n np:Nat}{E:Option Addr}{ce:Nat}{p:List Nat}{A:Option Addr}{c:Nat}{w:World}{b:Bool}(hE:Hid (zd (zG zq 1) 1 w w.heap.size E ce EL))(hn:Hid (EL.length=n))(hl:n≤12)(he:Hid (kv EL n∧∀g:Nat,(EL[g]?.getD []).length≤12))(hp:Hid ((∀g ∈p,g<n)∧p.length≤12))(hA:Hid (zx w w.heap.size A (zP p)))(hc:Hid (p.length≤c∧c≤9223372036854775807))(hk:Hid (p.length=np))(hb:Hid (JM EL p=b)):
  Calls Tryz.prog 61 #[.slice E n ce,.slice A np c] w fun e w'=>e= .returned (.bool b)∧Below w.heap.size w w':=by
 obtain rfl:=hk.out;have H:=qg7 EL n E ce p A c w hE.out hn.out (by omega) he.out.1 hp.out.1 hA.out hc.out.1 hc.out.2;rw[hb.out]at H;exact H
theorem qnj{w:World}{gi:Nat}{p:List Nat}(hg:gi<w.heap.size)(h:∀(j v:Nat),p[j]? =some v→w.cell? ⟨gi,j,none⟩=some (.int .i64 (v:Int))):zx w w.heap.size (some ⟨gi,0,none⟩) (zP p):=fun j u hj=>by
 unfold zP at hj;rw[Xx]at hj;cases hp:p[j]? with
 |none=>rw[hp]at hj;cases hj
 |some v=>
  rw[hp]at hj;injection hj with hj;subst hj;refine⟨_,rfl,hg,?_⟩;rw[show Addr.add ⟨gi,0,none⟩ j=⟨gi,j,none⟩by unfold Addr.add;split<;>simp_all];exact h j v hp
theorem quq{EL:List (List Int)}{n:Nat}{P:List (List Nat)}(h:vQ EL n P){i f:Nat}(hi:i<P.length)(hf:f ∈P[i]):qM EL n f f=JM EL P[i]:=
 XV.mpr ((h.cyc hi hf).symm.trans qur.symm)
def sqV(n:Nat)(G:List Nat):List Value:=(G.map fun g=>Value.slice (some ⟨g,0,none⟩) n n)++List.replicate (n - G.length) (Value.slice none 0 0)
structure qy(w:World)(gO n:Nat)(G:List Nat)(W:List (List Bool)):Prop where
 blk:ze w gO (sqV n G) 119
 len:G.length=W.length
 rows:∀(i:Nat) g r,G[i]? =some g→W[i]? =some r→ze w g (r.map Value.bool) 4∧r.length=n
 diff:G.Nodup
 apart:∀g ∈G,¬g=gO
theorem qy.keep{w w':World}{gO n:Nat}{G:List Nat}{W:List (List Bool)}(h:qy w gO n G W)(hb:Below w.heap.size w w'):qy w' gO n G W:=
 ⟨h.blk.keep hb h.blk.lt,h.len,fun i g r hg hr=>⟨(h.rows i g r hg hr).1.keep hb (h.rows i g r hg hr).1.lt,(h.rows i g r hg hr).2⟩,h.diff,h.apart⟩
theorem ze.other{w:World}{g:Nat}{vs:List Value}{T:TypeId}(h:ze w g vs T){p:Addr}(v:Value)(hp:¬p.block=g):ze (w.setCell p v) g vs T:=by
 unfold ze at h⊢
 rw[heap_setCell_other w p g v (fun e=>hp e.symm)];exact h
theorem qy.row_at{w:World}{gO n i:Nat}{G:List Nat}{W:List (List Bool)}(h:qy w gO n G W)(hi:i<G.length):w.cell? ⟨gO,i,none⟩=some (.slice (some ⟨G[i],0,none⟩) n n):=
 h.blk.cells _ _ (by
  unfold sqV;rw[XJ (by rw[Xi];exact hi),Xx,Xc hi];rfl)
theorem qy.row_in{w:World}{gO n i:Nat}{G:List Nat}{W:List (List Bool)}(h:qy w gO n G W)(hi:i<G.length):ze w G[i] ((W[i]?.getD []).map Value.bool) 4∧(W[i]?.getD []).length=n:=by
 have hw:i<W.length:=by rw[←h.len];exact hi
 rw[Xc hw,XY];exact h.rows i G[i] W[i] (Xc hi) (Xc hw)
theorem qy.bit_at{w:World}{gO n i j:Nat}{G:List Nat}{W:List (List Bool)}(h:qy w gO n G W)(hi:i<G.length)(hj:j<n):w.cell? ⟨G[i],j,none⟩=some (.bool (qf W i j)):=by
 obtain⟨h1,h2⟩:=h.row_in hi;refine h1.cells _ _ ?_;unfold qf
 rw[Xx,Xc (by omega),XY];rfl
theorem qy.set{w:World}{gO n i j:Nat}{G:List Nat}{W:List (List Bool)}(h:qy w gO n G W)(hi:i<G.length)(b:Bool):qy (w.setCell ⟨G[i],j,none⟩ (.bool b)) gO n G (vW W i j b):=by
 obtain⟨h1,h2⟩:=h.row_in hi;refine⟨h.blk.other _ (h.apart _ (Xd hi)),by unfold vW;rw[XD];exact h.len,fun k g r hg hr=> ?_,h.diff,h.apart⟩;unfold vW at hr;rw[Wg]at hr;by_cases hk:i=k
 ·subst hk;have hw:i<W.length:=by rw[←h.len];exact hi
  rw[Xb rfl,Xb hw]at hr;injection hr with hr;subst hr;rw[Xc hi]at hg;injection hg with hg;subst hg;refine⟨?_,by rw[XD];exact h2⟩;rw[List.map_set];exact h1.set j _
 ·rw[Xa hk]at hr;obtain⟨h3,h4⟩:=h.rows k g r hg hr;refine⟨h3.other _ (fun e=>hk ?_),h4⟩;have e1:G[i]? =G[k]? :=by rw[hg,Xc hi];exact congrArg some e
  exact(List.getElem?_inj hi h.diff).mp e1
theorem qy.add{w:World}{gO n g:Nat}{G:List Nat}{W:List (List Bool)}{r:List Bool}(h:qy w gO n G W)(hn:G.length<n)(hr:r.length=n)(hg:ze w g (r.map Value.bool) 4)(hG:∀x ∈G,¬x=g)(hO:¬g=gO):
  qy (w.setCell ⟨gO,G.length,none⟩ (.slice (some ⟨g,0,none⟩) n n)) gO n (G++[g]) (W++[r]):=by
 refine⟨?_,by rw[Xt,Xt,h.len];rfl,fun k x y hx hy=> ?_,?_,fun x hx=> ?_⟩
 ·have e:sqV n (G++[g])=(sqV n G).set G.length (.slice (some ⟨g,0,none⟩) n n):=by
   unfold sqV;obtain⟨d,hd⟩:∃d,n - G.length=d+1:=⟨n - G.length - 1,by omega⟩
   rw[Xt,XX,hd,show n - (G.length+[g].length)=d by simp;omega,List.set_append_right (h:=by rw[Xi];exact zn _),Xi,Nat.sub_self,List.replicate_succ,List.set_cons_zero,X8];rfl
  rw[e];exact h.blk.set _ _
 ·rcases Xj k G.length with q|q
  ·rw[XJ q]at hx;rw[XJ (by rw[←h.len];exact q)]at hy;obtain⟨h3,h4⟩:=h.rows k x y hx hy;exact⟨h3.other _ (fun e=>h.apart x (Xo hx) e.symm),h4⟩
  ·rw[XM q]at hx;have hz:k - G.length=0:=by
    rcases Wo (k - G.length)with z|z
    ·exact z
    ·rw[Xu (by simp;omega)]at hx;cases hx
   rw[hz]at hx;simp at hx;subst hx;rw[XM (by rw[←h.len];exact q),←h.len,hz]at hy;simp at hy;subst hy;exact⟨hg.other _ (fun e=>hO e.symm),hr⟩
 ·rw[List.nodup_append];exact⟨h.diff,by simp,fun a ha b hb=>by simp at hb;subst hb;exact hG a ha⟩
 ·rcases Xs.mp hx with q|q
  ·exact h.apart x q
  ·simp at q;subst q;exact hO
set_option maxHeartbeats 3200000 in
theorem qn3(m:za)(op a b:Int)(h:zg)(w:World)(H:zi w w.heap.size h m)(hn:m.classes.length≤1000)(hf:∀x ∈m.classes,x.fields.length≤1000)(hwa:op=23→IntKind.i64.wrap (1+a)=1+a)(ht:∀t ∈qk m op a b,0≤t∧t<m.methods.length):
  Calls Tryz.prog 20 #[zk h m,zz op a b] w fun e w'=>e= .returned (.int .i64 (kh m op a b))∧Below w.heap.size w w':=by
 obtain⟨hq,hc,hb,hz⟩:=Vj h m op a b w;have HW:=zH hb;have HC:=zH hc;have HZ:=zH hz;have HBX:=zH hq;have HI:=zH (H.now hb);have HN:=zH hn;have HF:=zH hf;have HT:=zH ht;have hle:=H.methods.le;have hcap:=H.methods.cap;clear hb hq hc hz H hf ht;obtain⟨v,hv⟩:∃v,kh m op a b=v:=⟨_,rfl⟩
 have HV:=zH hv;rw[hv];clear hv;go_enter Tryz.func20,Tryz.ntmps20;go_upto_region 1 with fail
 generalize(w.alloc (zo h m)).alloc (.cells #[.int .i64 op,.int .i64 a,.int .i64 b] 55)=w1 at*
 have HL:Hid (w.heap.size<w1.heap.size∧w.heap.size+1<w1.heap.size):=zH (by have:=HZ.out;exact⟨by omega,by omega⟩);have HX:Hid (Below w1.heap.size w1 w1):=zH (zb _ _);obtain⟨q0,q1,q2,q3,q4,q5,q6⟩:=HBX.out;obtain⟨j0,j1,j2⟩:=zM HC.out;by_cases h22:op=22
 ·subst h22;obtain⟨L,hL⟩:∃L,zV m.classes a=L:=⟨_,rfl⟩
  have hLl:L.length≤1000000:=by rw[←hL];exact VN HF.out hn a
  have HR:Hid (v=1+(L.length:Int)):=zH (by rw[←HV.out,←hL];rfl);have HFL:=zH hL;clear hL hwa;go_wp2_with(first|(go_at_call 46;(with_reducible refine(q1m HI HX HFL hn HF).mono ?_);rintro e w3 ⟨v3,rfl,ho,hb⟩;obtain⟨A1,k1,rfl,hS,_⟩:=kU ho;have HX3:=zl HX hb;obtain⟨q0,q1,q2,q3,q4,q5,q6⟩:=HBX.out.keep HX3.out HL.out.1;have j1:=(HC.out.keep HX3.out HL.out.2) 1 _ rfl;clear ho hb hS))
  go_ret;exact⟨by rw[HR.out];rfl,HW.out.trans (HX3.out.mono HW.out.size)⟩
 by_cases h23:op=23
 ·subst h23;have HR:Hid (v=1+a):=zH (by rw[←HV.out];rfl);have hwa:=hwa rfl;go_wp2_with fail
  go_ret;exact⟨by rw[HR.out];rfl,HW.out⟩
 obtain⟨L,hL⟩:∃L,qk m op a b=L:=⟨_,rfl⟩
 have hLl:L.length≤1000:=by rw[←hL];exact q3e m op a b hn
 have HR:Hid (v=qH m L):=zH (by rw[←HV.out,←hL];unfold kh;rw[Xa h22,Xa h23]);have HTL:=zH hL;have HT:Hid (∀t ∈L,0≤t∧t<(m.methods.length:Int)):=zH (by rw[←hL];exact HT.out);clear hL hwa;go_wp2_with(first|(go_at_call 47;(with_reducible refine(q3j HI HX HN HTL).mono ?_);rintro e w3 ⟨v3,rfl,ho,hb⟩;have HX3:=zl HX hb;obtain⟨A9,c9,rfl,hl9,hc9,hk9⟩:=ku ho;have HL9:=zH hl9;obtain⟨q0,q1,q2,q3,q4,q5,q6⟩:=HBX.out.keep HX3.out HL.out.1;obtain⟨j0,j1,j2⟩:=zM (HC.out.keep HX3.out HL.out.2);clear ho hb hl9))
 go_loopw [5,7] (fun d i wr=>∃k:Nat,k≤L.length∧i= .int .i64 k∧d= .int .i64 (qH m (L.take k))∧Hid (Below w3.heap.size w3 wr)) (fun _ i _=>L.length - (intOf i).toNat)
 case atStart=>exact⟨0,Xl _,rfl,rfl,zH (zb _ _)⟩
 case round=>
  obtain⟨k,hk,rfl,rfl,HXR⟩:=hrel;have HXX:=zH (HX3.out.trans (HXR.out.mono HX3.out.size));obtain⟨q0,q1,q2,q3,q4,q5,q6⟩:=HBX.out.keep HXX.out HL.out.1;obtain⟨P,hP⟩:∃P,qH m (L.take k)=P:=⟨_,rfl⟩
  have HP:=zH hP;rw[hP];clear hP;by_cases hlt:k<L.length
  ·obtain⟨a9,rfl,hb9,p9⟩:=qcy HL9.out hlt;have p9:=(HXR.out.cell (p:=a9.add k) (by rw[zp];exact hb9)).trans p9;have HPT:Hid (qH m (L.take (k+1))=jM m P L[k]):=zH (by rw[q5g hlt,HP.out]);obtain⟨t0,t1⟩:=HT.out L[k] (Xd hlt);generalize L[k]=t at*
   obtain⟨g,rfl⟩:=Xm t0;have hg:g<m.methods.length:=by omega
   obtain⟨ad,hx,eA,hab,hin,hcm⟩:=jJ HI.out hg;have hc6:=(hcm.keep HXX.out (by rw[zp];exact hab)).c6;have eg:zu m (g:Int)=m.methods[g]:=by unfold zu;rw[Xe,Xc hg];rfl
   have HPT:Hid (qH m (L.take (k+1))=if m.methods[g].pot>P then m.methods[g].pot else P):=zH (by rw[HPT.out];unfold jM;rw[eg]);rw[eA]at q3;generalize m.methods[g]=x at*
   obtain⟨u,hu⟩:∃u,x.pot=u:=⟨_,rfl⟩
   rw[hu]at hc6 HPT;clear hu hin hcm eg eA;by_cases hgt:u>P
   ·have HY:Hid (qH m (L.take (k+1))=u):=zH (by rw[HPT.out,Xb hgt]);go_wp2_with fail
    go_region
    go_wp2_with fail
    go_region
    go_wp2_with fail
    go_roundw;case rel=>exact⟨k+1,by omega,by go_num,by rw[HY.out],zH HXR.out.drew.drew⟩
    case measure=>simp[intOf];omega
   ·have HY:Hid (qH m (L.take (k+1))=P):=zH (by rw[HPT.out,Xa hgt]);go_wp2_with fail
    go_region
    go_wp2_with fail
    go_roundw;case rel=>exact⟨k+1,by omega,by go_num,by rw[HY.out],zH HXR.out.drew⟩
    case measure=>simp[intOf];omega
  ·have HY:Hid (v=P):=zH (by rw[HR.out,←HP.out,XH (by omega)]);go_wp2_with fail
   go_ret;exact⟨by rw[HY.out];rfl,HW.out.trans (HXX.out.mono HW.out.size)⟩
theorem qqy{m:za}{op a b v:Int}{h:zg}{w0 w:World}(HI:Hid (zi w0 w0.heap.size h m))(HX:Hid (Below w0.heap.size w0 w))(HN:Hid (m.classes.length≤1000))(HF:Hid (∀x ∈m.classes,x.fields.length≤1000))(HA:Hid (op=23→IntKind.i64.wrap (1+a)=1+a))(HT:Hid (∀t ∈qk m op a b,0≤t∧t<m.methods.length))(HV:Hid (kh m op a b=v)):
  Calls Tryz.prog 20 #[zk h m,zz op a b] w fun e w'=>e= .returned (.int .i64 v)∧Below w.heap.size w w':=by
 have H:=qn3 m op a b h w (HI.out.now HX.out) HN.out HF.out HA.out HT.out;rw[HV.out]at H;exact H
theorem q1f{op a b:Int}(h:qp op a b=true):0≤a∧a≤255∧0≤b∧b≤255:=by
 have:=XN h;omega
theorem qc6{m:za}{c:Int}{ab:List Int}:∀{l:List Int} {k:Nat},vB m c ab k l=true→∀s ∈l,s.toNat<m.methods.length
 | [],_,_,s,hs=>nomatch hs
 |t::l,k,h,s,hs=>by
  have h:(vk m c ab k t&& vB m c ab (k+1) l)=true:=h;rw[Xv]at h;rcases Xz.mp hs with rfl|hs
  ·have h1:=h.1;unfold vk at h1;rcases Xj s.toNat m.methods.length with g|g
   ·exact g
   ·rw[Xu g]at h1;cases h1
  ·exact qc6 h.2 s hs
theorem qg5{m:za}(hm:zK m){k b t:Int}(h:jK m.classes k b=some t):0≤t∧t<m.methods.length:=by
 unfold jK at h;split at h
 ·cases hc:m.classes[k.toNat]? with
  |none=>rw[hc]at h;cases h
  |some c=>
   rw[hc]at h;have h:c.slots[b.toNat]? =some t:=h;have ht:t ∈c.slots:=Xo h;have hb:=hm.cls _ c hc;have hf:=(hm.fits.ct c (Xo hc)).st t ht;unfold qs at hb;simp only[Xv]at hb;have:=qc6 hb.2.2.2.2 t ht;omega
 ·cases h
theorem q8h{m:za}(hm:zK m){x:zf}(hx:x ∈m.methods){op a b:Int}(hi:(op,a,b) ∈x.code):∀t ∈qk m op a b,0≤t∧t<m.methods.length:=fun t ht=>by
 unfold qk at ht;split at ht
 ·rename_i h31;subst h31;have hn:=(hm.method hx).co _ hi;have hs:=q1f ((hm.method hx).fits.ct _ hi);dsimp only at hn hs;have hn:decide (a<m.methods.length)=true:=hn;rw[XG]at ht;subst ht;exact⟨hs.1,XN hn⟩
 ·split at ht
  ·unfold kf at ht;obtain⟨k,_,hk⟩:=List.mem_filterMap.mp ht;exact qg5 hm hk
  ·cases ht
theorem qrl{m:za}(hm:zK m)(t:Int):0≤(zu m t).pot∧(zu m t).pot≤4096:=by
 unfold zu;cases h:m.methods[t.toNat]? with
 |none=>exact⟨by decide,by decide⟩
 |some x=>have:=(hm.method (Xo h)).fits;exact⟨this.p0,this.p1⟩
theorem q21{m:za}(hm:zK m)(L:List Int):0≤qH m L∧qH m L≤4096:=by
 have H:∀(L:List Int) (p:Int),0≤p→p≤4096→0≤L.foldl (jM m) p∧L.foldl (jM m) p≤4096:=by
  intro L
  induction L with
  |nil=>intro p h1 h2;exact⟨h1,h2⟩
  |cons t L ih=>
   intro p h1 h2;have:=qrl hm t;refine ih (jM m p t) ?_ ?_<;>unfold jM<;>split<;>omega
 exact H L 0 (by decide) (by decide)
theorem q9h{m:za}(hm:zK m){x:zf}(hx:x ∈m.methods){op a b:Int}(hi:(op,a,b) ∈x.code):0≤kh m op a b∧kh m op a b≤1000001:=by
 have hs:=q1f ((hm.method hx).fits.ct _ hi);dsimp only at hs;have hf:=VN (cl:=m.classes) (fun c hc=>by have:=(hm.fits.ct c hc).fl;omega) (by have:=hm.fits.cl;omega) a;have hp:=q21 hm (qk m op a b);unfold kh;split
 ·omega
 ·split<;>omega
theorem q3z{m:za}{x:zf}{op a b v:Int}{h:zg}{w0 w:World}(HI:Hid (zi w0 w0.heap.size h m))(HX:Hid (Below w0.heap.size w0 w))(HM:Hid (zK m))(HXM:Hid (x ∈m.methods))(HC:Hid ((op,a,b) ∈x.code))(HV:Hid (kh m op a b=v)):
  Calls Tryz.prog 20 #[zk h m,zz op a b] w fun e w'=>e= .returned (.int .i64 v)∧Below w.heap.size w w':=by
 refine qqy HI HX (zH (by have:=HM.out.fits.cl;omega)) (zH (fun c hc=>by have:=(HM.out.fits.ct c hc).fl;omega)) (zH (fun _=> ?_)) (zH (q8h HM.out HXM.out HC.out)) HV;have hs:=q1f ((HM.out.method HXM.out).fits.ct _ HC.out);dsimp only at hs;exact IntWalk.i64_in (1+a) ⟨by omega,by omega⟩
theorem q7c{P:Prop}(h:P:=by
 have e:qO m maps f=0:=by unfold qO;rw[Xa (by omega)]
 rw[e];clear e;go_enter Tryz.func65,Tryz.ntmps65;go_upto_region 1 with fail
 generalize w.alloc (zo h m)=w1 at*
 obtain⟨q0,q1,q2,q3,q4,q5,q6⟩:=HBX.out;go_wp2_with fail
 go_ret;exact⟨rfl,HW.out⟩):P:=h
set_option maxHeartbeats 3200000 in
theorem qia(m:za)(maps:List (List zm))(f:Int)(A:Option Addr)(c:Nat)(h:zg)(w:World)(H:zi w w.heap.size h m)(hm:zK m)(hM:zd (zG jp 2) 1 w w.heap.size A c maps)(hz:vK 4000 maps):
  Calls Tryz.prog 65 #[zk h m,.slice A maps.length c,.int .i64 f] w fun e w'=>e= .returned (.int .i64 (qO m maps f))∧Below w.heap.size w w':=by
 have HW:=zH (jz (w:=w) (h:=h) (m:=m));have HBX:=zH (zX w h m);have HI:=zH (H.now HW.out);have HM0:=zH (qX RowAt.keeps hM HW.out);have HMZ:=zH hz;have HM:=zH hm;have hle:=H.methods.le;have hcap:=H.methods.cap;have hl1:=hM.le;have hl2:=hM.cap;clear H hM hz hm;by_cases h0:0≤f;rotate_left
 ·have hlt:f<0:=by omega
  exact q7c
 by_cases h1:f<m.methods.length;rotate_left
 ·have hlt:¬f<0:=by omega
  have hge:f ≥ (m.methods.length:Int):=by omega
  exact q7c
 obtain⟨k,rfl⟩:=Xm h0;have hkm:k<m.methods.length:=by omega
 have i0:¬(k:Int)<0:=by omega
 have i1:¬(k:Int) ≥ (m.methods.length:Int):=by omega
 obtain⟨ad,hx,eA,hab,hin,hc⟩:=jJ HI.out hkm;obtain⟨S,hS⟩:∃S,maps[k]?.getD []=S:=⟨_,rfl⟩
 have hfr:qO m maps (k:Int)=3+m.methods[k].args.length+m.methods[k].locals.length+vi S:=by
  unfold qO zu;rw[Xb ⟨h0,h1⟩,Xe,hS,Xc hkm];rfl
 have hall:=(HM.out.method (Xd hkm)).all;have hd0:vi S≤4000:=by
  rw[←hS];cases hs:maps[k]? with
  |none=>exact Xl _
  |some S=>exact q0o (fun s hs'=>(HMZ.out S (Xo hs)).2 s hs')
 obtain⟨c0,c1,c2,c3,c4,c5,c6,c7⟩:=hc;have ha1:=hin.args.cap;have ha2:=hin.args.le;have ha3:=hin.locals.cap;have ha4:=hin.locals.le;obtain⟨A0,Ab,A2,A3,A4,k0,k1,k2,k3,k4⟩:=h;dsimp only at eA hle hcap;subst eA;generalize m.methods[k]=x at*
 clear h0 h1 c2 c3 c4 c5 c6 c7 hin;have HF:=zH hfr;have HSS:=zH hS;obtain⟨b,hb⟩:∃b,qO m maps (k:Int)=b:=⟨_,rfl⟩
 rw[hb]at HF⊢
 clear hfr hS hb;go_enter Tryz.func65,Tryz.ntmps65;go_upto_region 1 with fail
 generalize w.alloc (zo ⟨A0,Ab,A2,some ad,A4,k0,k1,k2,k3,k4⟩ m)=w1 at*
 obtain⟨q0,q1,q2,q3,q4,q5,q6⟩:=HBX.out;go_wp2_with fail
 go_loopw [7,8] (fun d i wr=>∃pc:Nat,pc≤S.length∧i= .int .i64 pc∧d= .int .i64 (vi (S.take pc):Nat)∧wr=w1) (fun _ i _=>S.length - (intOf i).toNat)
 case atStart=>exact⟨0,Xl _,rfl,rfl,rfl⟩
 case round=>
  obtain⟨pc,hpc,rfl,rfl,hwr⟩:=hrel;have hwr:=hwr.symm;subst hwr;by_cases hk:k<maps.length;rotate_left
  ·have hS0:S=[]:=by rw[←HSS.out,Xu (by omega)];rfl
   subst hS0;have hki:¬(k:Int)<(maps.length:Int):=by omega
   have e0:vi (([]:List zm).take pc)=0:=by rw[List.take_nil];rfl
   rw[e0];clear e0;have HF:Hid (b=3+(x.args.length:Int)+(x.locals.length:Int)+0):=zH (by rw[HF.out];rfl);go_wp2_with fail
   go_region
   go_wp2_with fail
   go_ret;exact⟨by rw[HF.out];first|rfl|simp,HW.out.drew⟩
  have hki:(k:Int)<(maps.length:Int):=by omega
  obtain⟨adM,rfl,habM,A1,cS,r0,hsr⟩:=HM0.out.row.at_ hk;have hSe:maps[k]=S:=by rw[←HSS.out,Xc hk];rfl
  rw[hSe]at r0 hsr;rw[Xq]at r0;have hs1:=hsr.le;have hs2:=hsr.cap;obtain⟨D,hD⟩:∃D,vi (S.take pc)=D:=⟨_,rfl⟩
  have hDl:D≤4000:=by
   rw[←hD];refine q0o (fun s hs'=>(HMZ.out maps[k] (Xd hk)).2 s ?_);rw[hSe];exact List.mem_of_mem_take hs'
  have HD:=zH hD;by_cases hp:pc<S.length
  ·obtain⟨adS,rfl,habS,s0,At,ct,s1,hst⟩:=hsr.row.at_ hp;have HT:Hid (vi (S.take (pc+1))=Ja D S[pc]):=zH (by rw[qbp hp,hD]);generalize S[pc]=s at*
   have ht1:=hst.le;have ht2:=hst.cap;rw[hD];clear hD hst s0 hSe hsr;by_cases hg:D<s.stack.length
   ·have hgi:(s.stack.length:Int)>(D:Int):=by omega
    have HY:Hid (vi (S.take (pc+1))=s.stack.length):=zH (by rw[HT.out];unfold Ja;rw[Xb hg]);go_wp2_with fail
    go_roundw;case rel=>exact⟨pc+1,by omega,by go_num,by rw[HY.out],by first|rfl|trivial⟩
    case measure=>simp[intOf];omega
   ·have hgi:¬(s.stack.length:Int)>(D:Int):=by omega
    have HY:Hid (vi (S.take (pc+1))=D):=zH (by rw[HT.out];unfold Ja;rw[Xa hg]);go_wp2_with fail
    go_roundw;case rel=>exact⟨pc+1,by omega,by go_num,by rw[HY.out],by first|rfl|trivial⟩
    case measure=>simp[intOf];omega
  ·have hpi:¬(pc:Int)<(S.length:Int):=by omega
   have HF:Hid (b=3+(x.args.length:Int)+(x.locals.length:Int)+(D:Int)):=zH (by rw[HF.out,←HD.out,XH (by omega)]);rw[hD];clear hD hSe hsr;go_wp2_with fail
   go_region
   go_wp2_with fail
   go_ret;exact⟨by rw[HF.out];first|rfl|simp,HW.out.drew⟩
theorem qao{m:za}{maps:List (List zm)}{f r:Int}{A:Option Addr}{c n:Nat}{h:zg}{w0 w:World}(HI:Hid (zi w0 w0.heap.size h m))(HX:Hid (Below w0.heap.size w0 w))(HM:Hid (zK m))(HS:Hid (zd (zG jp 2) 1 w w.heap.size A c maps))(HZ:Hid (vK 4000 maps))(HN:Hid (maps.length=n))(HR:Hid (qO m maps f=r)):
  Calls Tryz.prog 65 #[zk h m,.slice A n c,.int .i64 f] w fun e w'=>e= .returned (.int .i64 r)∧Below w.heap.size w w':=by
 obtain rfl:=HN.out;have H:=qia m maps f A c h w (HI.out.now HX.out) HM.out HS.out HZ.out;rw[HR.out]at H;exact H
theorem fgv_3(m:za)(x:zf)(f:Nat)(a b:Int)(hx:m.methods[f]? =some x)(ha:a≤9223372036854775807)(tk:List (Int×Int))(A:Option Addr)(c:Nat)(h:zg)(w:World)(H:zi w w.heap.size h m):
  Calls Tryz.prog 142 #[zk h m,zz 3 a b,.int .i64 f,.slice A tk.length c] w (qd (zU m x 3 a b tk) w):=by
 have e1:zU m x 3 a b tk=[qm x a]:=by simp[zU,zy]
 rw[e1];clear e1;obtain⟨t,ht⟩:∃t,qm x a=t:=⟨_,rfl⟩
 have HT:=zH ht;rw[ht];clear ht;obtain⟨hw,hp⟩:=qF h m 3 a b w;have HW:=zH hw;have HP:=zH hp;have HI:=zH (H.now hw);clear hw hp H;go_enter Tryz.func142,Tryz.ntmps142;go_upto_region 1 with fail
 change Code.wp _ _ _ _ (qn h m 3 a b w);go_upto_region 2 with(go_at_call 171;(refine(qG (h:=h) (m:=m) (w:=w)).mono ?_);rintro e w2 ⟨rfl,rfl⟩)
 generalize qz h m 3 a b w=w2 at*
 have HX:Hid (Below w2.heap.size w2 w2):=zH (zb _ _);have HN:=zH HP.out.fnlt;have HC:=zH HP.out.fn;obtain⟨q0,q1,q2,q3,q4,q5,q6⟩:=HP.out.img;obtain⟨o0,o1,o2⟩:=zM HP.out.ins;go_wp2_with(go_at_call 172;(with_reducible refine(qbk HI HX hx ha HT).mono ?_);rintro e w3 ⟨rfl,hb⟩;have HX3:=zH hb;clear hb)
 go_ret;exact⟨_,_,rfl,jV (by simp) (by go_simp) (by go_simp),HW.out.trans ((HX3.out.alloc HX3.out.size _).mono HW.out.size)⟩
theorem fgv_29(m:za)(x:zf)(f:Nat)(j:Nat)(b:Int)(t:Int×Int)(hs:m.statics[j]? =some t)(tk:List (Int×Int))(A:Option Addr)(c:Nat)(h:zg)(w:World)(H:zi w w.heap.size h m):
  Calls Tryz.prog 142 #[zk h m,zz 29 (j:Int) b,.int .i64 f,.slice A tk.length c] w (qd (zU m x 29 (j:Int) b tk) w):=by
 have e0:ZF m (j:Int)=t:=by unfold ZF;rw[Xe,hs];rfl
 have e1:zU m x 29 (j:Int) b tk=[t]:=by simp[zU,zy,e0]
 rw[e1];clear e1;have HS:=zH hs;clear hs e0;obtain⟨hw,hp⟩:=qF h m 29 (j:Int) b w;have HW:=zH hw;have HP:=zH hp;have HI:=zH (H.now hw);clear hw hp H;go_enter Tryz.func142,Tryz.ntmps142;go_upto_region 1 with fail
 change Code.wp _ _ _ _ (qn h m 29 (j:Int) b w);go_upto_region 2 with(go_at_call 171;(refine(qG (h:=h) (m:=m) (w:=w)).mono ?_);rintro e w2 ⟨rfl,rfl⟩)
 generalize qz h m 29 (j:Int) b w=w2 at*
 have HX:Hid (Below w2.heap.size w2 w2):=zH (zb _ _);have HN:=zH HP.out.fnlt;have HC:=zH HP.out.fn;obtain⟨q0,q1,q2,q3,q4,q5,q6⟩:=HP.out.img;obtain⟨o0,o1,o2⟩:=zM HP.out.ins;go_wp2_with(go_at_call 174;(with_reducible refine(q9k HI HX HS).mono ?_);rintro e w3 ⟨rfl,hb⟩;have HX3:=zH hb;clear hb)
 go_ret;exact⟨_,_,rfl,jV (by simp) (by go_simp) (by go_simp),HW.out.trans ((HX3.out.alloc HX3.out.size _).mono HW.out.size)⟩
theorem fgv_31(m:za)(x:zf)(f:Nat)(j:Nat)(b:Int)(y:zf)(hy:m.methods[j]? =some y)(tk:List (Int×Int))(A:Option Addr)(c:Nat)(h:zg)(w:World)(H:zi w w.heap.size h m):
  Calls Tryz.prog 142 #[zk h m,zz 31 (j:Int) b,.int .i64 f,.slice A tk.length c] w (qd (zU m x 31 (j:Int) b tk) w):=by
 have e0:zu m (j:Int)=y:=by unfold zu;rw[Xe,hy];rfl
 have e1:zU m x 31 (j:Int) b tk=qR y:=by simp[zU,zy,e0]
 rw[e1];clear e1;clear e0;obtain⟨hw,hp⟩:=qF h m 31 (j:Int) b w;have HW:=zH hw;have HP:=zH hp;have HI:=zH (H.now hw);clear hw hp H;go_enter Tryz.func142,Tryz.ntmps142;go_upto_region 1 with fail
 change Code.wp _ _ _ _ (qn h m 31 (j:Int) b w);go_upto_region 2 with(go_at_call 171;(refine(qG (h:=h) (m:=m) (w:=w)).mono ?_);rintro e w2 ⟨rfl,rfl⟩)
 generalize qz h m 31 (j:Int) b w=w2 at*
 have HX:Hid (Below w2.heap.size w2 w2):=zH (zb _ _);have HN:=zH HP.out.fnlt;have HC:=zH HP.out.fn;obtain⟨q0,q1,q2,q3,q4,q5,q6⟩:=HP.out.img;obtain⟨o0,o1,o2⟩:=zM HP.out.ins;go_wp2_with(go_at_call 178;(with_reducible refine(q47 HI HX hy).mono ?_);rintro e w3 ⟨A3,c3,rfl,hs3,hb⟩;have HX3:=zl HX hb;have HS3:=zH hs3;clear hb hs3)
 go_ret;exact⟨_,_,rfl,HS3.out,HW.out.trans (HX3.out.mono HW.out.size)⟩
theorem fgv_27(m:za)(x:zf)(f:Nat)(a:Int)(k:Nat)(t:Int×Int)(hk:(zV m.classes a)[k]? =some t)(hn:m.classes.length≤1000)(hf:∀x ∈m.classes,x.fields.length≤1000)(tk:List (Int×Int))(A:Option Addr)(c:Nat)(h:zg)(w:World)(H:zi w w.heap.size h m):
  Calls Tryz.prog 142 #[zk h m,zz 27 a (k:Int),.int .i64 f,.slice A tk.length c] w (qd (zU m x 27 a (k:Int) tk) w):=by
 have e0:ZL m a (k:Int)=t:=by unfold ZL;rw[Xe,hk];rfl
 have e1:zU m x 27 a (k:Int) tk=[t]:=by simp[zU,zy,e0]
 rw[e1];clear e1;have HK:=zH hk;have HF:=zH hf;clear hk hf e0;obtain⟨hw,hp⟩:=qF h m 27 a (k:Int) w;have HW:=zH hw;have HP:=zH hp;have HI:=zH (H.now hw);clear hw hp H;go_enter Tryz.func142,Tryz.ntmps142;go_upto_region 1 with fail
 change Code.wp _ _ _ _ (qn h m 27 a (k:Int) w);go_upto_region 2 with(go_at_call 171;(refine(qG (h:=h) (m:=m) (w:=w)).mono ?_);rintro e w2 ⟨rfl,rfl⟩)
 generalize qz h m 27 a (k:Int) w=w2 at*
 have HX:Hid (Below w2.heap.size w2 w2):=zH (zb _ _);have HN:=zH HP.out.fnlt;have HC:=zH HP.out.fn;obtain⟨q0,q1,q2,q3,q4,q5,q6⟩:=HP.out.img;obtain⟨o0,o1,o2⟩:=zM HP.out.ins;go_wp2_with(go_at_call 173;(with_reducible refine(qbl HI HX HK hn HF).mono ?_);rintro e w3 ⟨rfl,hb⟩;have HX3:=zl HX hb;clear hb)
 go_ret;exact⟨_,_,rfl,jV (by simp) (by go_simp) (by go_simp),HW.out.trans ((HX3.out.alloc HX3.out.size _).mono HW.out.size)⟩
theorem fgv_32(m:za)(x:zf)(f:Nat)(a b:Int)(k:Nat)(hs:jK m.classes a b=some (k:Int))(y:zf)(hy:m.methods[k]? =some y)(tk:List (Int×Int))(A:Option Addr)(c:Nat)(h:zg)(w:World)(H:zi w w.heap.size h m):
  Calls Tryz.prog 142 #[zk h m,zz 32 a b,.int .i64 f,.slice A tk.length c] w (qd (zU m x 32 a b tk) w):=by
 have e00:kB m a b=(k:Int):=by unfold kB;rw[hs];rfl
 have e0:zu m (k:Int)=y:=by unfold zu;rw[Xe,hy];rfl
 have HSL:=zH hs;have HY:=zH hy;have e1:zU m x 32 a b tk=qR y:=by simp[zU,zy,e0,e00]
 rw[e1];clear e1;clear e00 e0 hs hy;obtain⟨hw,hp⟩:=qF h m 32 a b w;have HW:=zH hw;have HP:=zH hp;have HI:=zH (H.now hw);clear hw hp H;go_enter Tryz.func142,Tryz.ntmps142;go_upto_region 1 with fail
 change Code.wp _ _ _ _ (qn h m 32 a b w);go_upto_region 2 with(go_at_call 171;(refine(qG (h:=h) (m:=m) (w:=w)).mono ?_);rintro e w2 ⟨rfl,rfl⟩)
 generalize qz h m 32 a b w=w2 at*
 have HX:Hid (Below w2.heap.size w2 w2):=zH (zb _ _);have HN:=zH HP.out.fnlt;have HC:=zH HP.out.fn;obtain⟨q0,q1,q2,q3,q4,q5,q6⟩:=HP.out.img;obtain⟨o0,o1,o2⟩:=zM HP.out.ins;go_wp2_with fail
 have HXD:Hid (Below w2.heap.size w2 w2.drew):=zH (zb _ _).drew;have HKP:Hid (∀W,Below w2.heap.size w2 W→(fun w'=>w'.cell? ⟨w.heap.size,0,none⟩=some (.slice h.A0 m.classes.length h.c0)∧w'.cell? ⟨w.heap.size,1,none⟩=some (.slice h.A1 m.statics.length h.c1)∧w'.cell? ⟨w.heap.size,2,none⟩=some (.slice h.A2 m.ints.length h.c2)∧w'.cell? ⟨w.heap.size,3,none⟩=some (.slice h.A3 m.methods.length h.c3)∧w'.cell? ⟨w.heap.size,4,none⟩=some (.slice h.A4 m.entries.length h.c4)∧w'.cell? ⟨w.heap.size,5,none⟩=some (.int .i64 m.stack)∧w'.cell? ⟨w.heap.size,6,none⟩=some (.int .i64 m.heap)∧w'.cell? ⟨w.heap.size+1,0,none⟩=some (.int .i64 32)∧w'.cell? ⟨w.heap.size+1,1,none⟩=some (.int .i64 a)∧w'.cell? ⟨w.heap.size+1,2,none⟩=some (.int .i64 b)) W):=zH (fun W hW=>by
  have hz:=HP.out.size;obtain⟨d0,d1,d2,d3,d4,d5,d6⟩:=HP.out.img.keep hW (by omega);have di:=HP.out.ins.keep hW (by omega);exact⟨d0,d1,d2,d3,d4,d5,d6,di 0 _ rfl,di 1 _ rfl,di 2 _ rfl⟩)
 clear q0 q1 q2 q3 q4 q5 q6 o0 o1 o2;refine wp_region_noPanic ?_;refine wp_region_held_drew (S:=(fun w'=>w'.cell? ⟨w.heap.size,0,none⟩=some (.slice h.A0 m.classes.length h.c0)∧w'.cell? ⟨w.heap.size,1,none⟩=some (.slice h.A1 m.statics.length h.c1)∧w'.cell? ⟨w.heap.size,2,none⟩=some (.slice h.A2 m.ints.length h.c2)∧w'.cell? ⟨w.heap.size,3,none⟩=some (.slice h.A3 m.methods.length h.c3)∧w'.cell? ⟨w.heap.size,4,none⟩=some (.slice h.A4 m.entries.length h.c4)∧w'.cell? ⟨w.heap.size,5,none⟩=some (.int .i64 m.stack)∧w'.cell? ⟨w.heap.size,6,none⟩=some (.int .i64 m.heap)∧w'.cell? ⟨w.heap.size+1,0,none⟩=some (.int .i64 32)∧w'.cell? ⟨w.heap.size+1,1,none⟩=some (.int .i64 a)∧w'.cell? ⟨w.heap.size+1,2,none⟩=some (.int .i64 b))) (by kernel_rfl) (HKP.out _ HXD.out) (fun hHeld=> ?_);refine mT 0 (h:=mT 1 (h:=mT 2 (h:= ?_)));refine wpAnyH_ready (rs:=[3]) (by kernel_rfl) (by simp) ?_;refine AllReadyH.cons (o:=_) rfl (fun K hK=> ?_) AllReadyH.nil;go_simp;go_wp2_with(go_at_call 177;(with_reducible refine(qd1 HI HXD HSL).mono ?_);rintro e w4 ⟨rfl,hb⟩;have HX4:=zl HXD hb;clear hb)
 refine hK.out _ _ (HKP.out _ HX4.out) (fun hHeld=> ?_);clear hK K;try simp only[sA,sB,sC,Act.put,sD,sE,sF]
 refine wpAnyH_ready (rs:=[4]) (by kernel_rfl) (by simp) ?_;refine AllReadyH.cons (o:=_) rfl (fun K hK=> ?_) AllReadyH.nil;go_simp;go_wp2_with(go_at_call 178;(with_reducible refine(q47 HI HX4 HY.out).mono ?_);rintro e w5 ⟨A3,c3,rfl,hs3,hb⟩;have HX3:=zl HX4 hb;have HS3:=zH hs3;clear hb hs3)
 refine hK.out _ _ (HKP.out _ HX3.out) (fun hHeld=> ?_);clear hK K;try simp only[sA,sB,sC,Act.put,sD,sE,sF]
 refine mT 5 (h:= ?_);refine wpAnyH_done (by kernel_rfl) ?_ _;refine NoPanic.normal ?_;go_wp2_with fail
 go_ret;exact⟨_,_,rfl,HS3.out,HW.out.trans (HX3.out.mono HW.out.size)⟩
theorem fgv_6(m:za)(x:zf)(f:Nat)(a b:Int)(tk:List (Int×Int))(A:Option Addr)(c:Nat)(htl:tk.length≤1000)(h:zg)(w:World)(H:zi w w.heap.size h m)(HT:zd zh 2 w w.heap.size A c tk):
  Calls Tryz.prog 142 #[zk h m,zz 6 a b,.int .i64 f,.slice A tk.length c] w (qd (zU m x 6 a b tk) w):=by
 have e1:zU m x 6 a b tk=tk++tk:=by simp[zU,zy]
 rw[e1];clear e1;obtain⟨N,hN⟩:∃N,tk++tk=N:=⟨_,rfl⟩
 have HNN:=zH hN;rw[hN];clear hN;obtain⟨hw,hp⟩:=qF h m 6 a b w;have HW:=zH hw;have HP:=zH hp;have HI:=zH (H.now hw);have HTK:=zH ((HT.below_to zh.keeps hw (zn _)).keep' zh.keeps hw.size (fun _ _=>rfl));clear hw hp H HT;go_enter Tryz.func142,Tryz.ntmps142;go_upto_region 1 with fail
 change Code.wp _ _ _ _ (qn h m 6 a b w);go_upto_region 2 with(go_at_call 171;(refine(qG (h:=h) (m:=m) (w:=w)).mono ?_);rintro e w2 ⟨rfl,rfl⟩)
 generalize qz h m 6 a b w=w2 at*
 have HX:Hid (Below w2.heap.size w2 w2):=zH (zb _ _);have HN:=zH HP.out.fnlt;have HC:=zH HP.out.fn;obtain⟨q0,q1,q2,q3,q4,q5,q6⟩:=HP.out.img;obtain⟨o0,o1,o2⟩:=zM HP.out.ins;have HA:Hid (Below w2.heap.size w2 (w2.alloc (.cells #[.slice A tk.length c,.slice A tk.length c] 23))):=zH ((zb _ _).alloc (zn _) _);go_wp2_with(go_at_call 141;(with_reducible refine(qk8 (g:=w2.heap.size) HNN (VQ HTK.out _) (VQ HTK.out _) (by simp) (qa w2 [.slice A tk.length c,.slice A tk.length c] 23) htl htl).mono ?_);rintro e w3 ⟨v3,rfl,ho3,hb3⟩;have HO3:=zH (jc ho3 HA.out.size);have HX3:=zl HA hb3;clear ho3 hb3)
 go_ret;exact kX.some_ (w0:=w2) ⟨_,rfl,HO3.out,HX3.out⟩ HW.out
def Ym(op a b:Int):zf:=⟨[],[],(0,0),[(op,a,b)],0,0,[]⟩
def qW(m:za)(op a b:Int):za:={m with methods:=m.methods++[Ym op a b]}
theorem q0c(m:za)(op a b:Int):(qW m op a b).methods.length=m.methods.length+1:=by simp[qW]
theorem qdr{m:za}{op a b:Int}{t:Nat}(h:t<m.methods.length):zu (qW m op a b) (t:Int)=zu m (t:Int):=by
 unfold zu qW;dsimp only;rw[Xe,XJ h]
theorem qmg(m:za)(op a b:Int):zu (qW m op a b) (m.methods.length:Int)=Ym op a b:=by
 unfold zu qW;dsimp only;rw[Xe,XM (zn _),Nat.sub_self];rfl
theorem q70(m:za)(op a b x y z:Int):qk (qW m op a b) x y z=qk m x y z:=rfl
theorem q90{m:za}(L:List Int):(∀t ∈L,(zu m t).pot≤qH m L)∧0≤qH m L∧(qH m L=0∨∃t ∈L,(zu m t).pot=qH m L):=by
 have H:∀(L:List Int) (p:Int),(∀t ∈L,(zu m t).pot≤L.foldl (jM m) p)∧p≤L.foldl (jM m) p∧(L.foldl (jM m) p=p∨∃t ∈L,(zu m t).pot=L.foldl (jM m) p):=by
  intro L
  induction L with
  |nil=>intro p;exact⟨(fun t ht=>nomatch ht),XR _,.inl rfl⟩
  |cons a L ih=>
   intro p;obtain⟨h1,h2,h3⟩:=ih (jM m p a);have hp:p≤jM m p a∧(zu m a).pot≤jM m p a∧(jM m p a=p∨jM m p a=(zu m a).pot):=by
    unfold jM;split<;>omega
   rw[List.foldl_cons];refine⟨fun t ht=> ?_,by omega,?_⟩
   ·rcases Xz.mp ht with rfl|ht
    ·omega
    ·exact h1 t ht
   ·rcases h3 with h3|⟨t,ht,h3⟩
    ·rcases hp.2.2 with h4|h4
     ·exact .inl (h3.trans h4)
     ·exact .inr ⟨a,XE,by rw[h3,h4]⟩
    ·exact .inr ⟨t,XI _ ht,h3⟩
 exact H L 0
theorem qfk{m x:za}{L M:List Int}(h1:∀t ∈L,t ∈M)(h2:∀t ∈M,t ∈L)(hp:∀t ∈L,(zu x t).pot=(zu m t).pot):qH x L=qH m M:=by
 obtain⟨a1,a2,a3⟩:=q90 (m:=x) L;obtain⟨b1,b2,b3⟩:=q90 (m:=m) M;refine Int.le_antisymm ?_ ?_
 ·rcases a3 with a3|⟨t,ht,a3⟩
  ·omega
  ·have:=b1 t (h1 t ht);have:=hp t ht;omega
 ·rcases b3 with b3|⟨t,ht,b3⟩
  ·omega
  ·have:=a1 t (h2 t ht);have:=hp t (h2 t ht);omega
theorem q1j{m:za}{op a b:Int}(ht:∀t ∈qk m op a b,0≤t∧t<m.methods.length)(g:Int):g ∈jU (qW m op a b) (m.methods.length:Int)↔g ∈qk m op a b:=by
 unfold jU;rw[Xb ⟨by omega,by rw[q0c];omega⟩,qmg,q0c];unfold jF;rw[XW];constructor
 ·rintro⟨k,hk,rfl⟩;rw[List.mem_filter]at hk;have:=hk.2;simp[ZN,zR,Ym,q70]at this;first|exact this|exact XN this
 ·intro hg;obtain⟨h0,h1⟩:=ht g hg;refine⟨g.toNat,?_,by omega⟩;rw[List.mem_filter,XQ];refine⟨by omega,?_⟩;rw[show((g.toNat:Nat):Int)=g by omega];simp[ZN,zR,Ym,q70];first|exact hg|exact Xh hg
theorem qmf{m:za}{op a b:Int}(ht:∀t ∈qk m op a b,0≤t∧t<m.methods.length):qH (qW m op a b) (jU (qW m op a b) (m.methods.length:Int))=qH m (qk m op a b):=
 qfk (fun t h=>(q1j ht t).mp h) (fun t h=>(q1j ht t).mpr h) fun t h=>by
  obtain⟨h0,h1⟩:=ht t ((q1j ht t).mp h);obtain⟨k,rfl⟩:=Xm h0;rw[qdr (by omega)]
theorem qbb:(Tryz.prog.info? 53).map (fun i=>(i.zero.map (fun z=>z.cells.size),i.size,i.bytes))=some (some 8,8,128):=by kernel_rfl
theorem q9f{P:Program}{t:TypeId}{k b:Nat}(h:(P.info? t).map (fun i=>(i.zero.map (fun z=>z.cells.size),i.size,i.bytes))=some (some k,k,b)):∃i z,P.info? t=some i∧i.zero=some z∧z.cells.size=k∧i.size=k∧i.bytes=b:=by
 cases hi:P.info? t with
 |none=>rw[hi]at h;simp at h
 |some i=>
  rw[hi]at h;simp only[Option.map_some,Option.some.injEq,Prod.mk.injEq]at h;cases hz:i.zero with
  |none=>rw[hz]at h;simp at h
  |some z=>rw[hz]at h;simp at h;exact⟨i,z,rfl,hz,h.1,h.2.1,h.2.2⟩
def qeo(zs:List (zf×qh))(n:Nat)(w:World)(e:Ending)(w':World):Prop:=∃gi ci,e= .returned (.slice (some ⟨gi,0,none⟩) n ci)∧w'.ownsRow w.heap.size 53 8 (.slice (some ⟨gi,0,none⟩) n ci) n (kE zs)∧Below w.heap.size w w'
theorem qio(zs:List (zf×qh))(n:Nat)(ad:Addr)(c B:Nat)(w:World)(hn:zs.length=n)(h:zx w B (some ad) (kE zs))(hB:B≤w.heap.size)(h0:0<n)(hl:n≤1048576):
  Calls Tryz.prog 201 #[.slice (some ad) n c] w (qeo zs n w):=by
 have hq:=fun w=>Lib.run_eql_slice_nil (P:=Tryz.prog) w 25 53 (some ad) n c 0 0 Tryz.underlying25;obtain⟨ti,z0,hti,ht0,ht1,ht2,ht3⟩:=q9f qbb;have HXE:Hid (Below w.heap.size w (w.alloc (.cells #[] 53))):=zH ((zb _ _).alloc (zn _) _);have HT:=zH (h.below_to HXE.out hB);have HN:=zH hn;clear h hn;go_enter Tryz.func201,Tryz.ntmps201;go_wp2_with(at_builtin;go_loud (refine vt rfl _ _ 25 rfl w.heap.size 53 ti z0 8 128 Tryz.underlying25 hti ht0 ht2 ht3 ht1 (by decide) _ 0 [] rfl (Qo w 53 8) (some ad) n c _ (kE zs) (by rw[qrk,HN.out]) rfl HT.out (qrj _) (by unfold maxLen;omega) (by omega) (by simp) ?_);intro v6 w6 hown hgrow;have HX6:=zH (qN HXE.out (Qo w 53 8) (by simp) hgrow);have HO6:Hid (w6.ownsRow w.heap.size 53 8 v6 n (kE zs)):=zH (by simpa using hown);clear hown hgrow)
 go_ret;rcases kq HO6.out with⟨_,hn⟩|⟨g,ca,rfl,_,_⟩
 ·omega
 ·exact⟨g,ca,rfl,HO6.out,HX6.out⟩
theorem Vn{zs:List (zf×qh)}{n:Nat}{ad:Addr}{c B:Nat}{w0 w:World}(hn:Hid (zs.length=n))(h:Hid (zx w0 B (some ad) (kE zs)))(HX:Hid (Below w0.heap.size w0 w))(hB:Hid (B≤w0.heap.size))(h0:Hid (0<n))(hl:Hid (n≤1048576)):
  Calls Tryz.prog 201 #[.slice (some ad) n c] w (qeo zs n w):=
 qio zs n ad c B w hn.out (h.out.below_to HX.out hB.out) (Xg hB.out HX.out.size) h0.out hl.out
theorem qjm:(Tryz.prog.info? 101).map (fun i=>(i.zero,i.size,i.bytes))=some (some (.agg #[.slice none 0 0,.int .i64 0]),2,32):=by kernel_rfl
def Qi(n g:Nat)(most:Int):List Value:=[.slice (some ⟨g,0,none⟩) n n,.int .i64 most]
def QD(n:Nat):List Nat→List Inq→List Value
 |g::gs,q::L=>Qi n g q.2++QD n gs L
 |_,_=> []
theorem qba{n g:Nat}{q:Inq}:∀{gs:List Nat} {L:List Inq},gs.length=L.length→QD n (gs++[g]) (L++[q])=QD n gs L++Qi n g q.2
 | [],[],_=>by show Qi n g q.2++[]=_;rw[List.append_nil];rfl
 |a::gs,b::L,h=>by
  show Qi n a b.2++QD n (gs++[g]) (L++[q])=(Qi n a b.2++QD n gs L)++Qi n g q.2;rw[qba (by simpa using h),X8]
 | [],_::_,h=>by simp at h
 |_::_,[],h=>by simp at h
theorem qe3{n:Nat}:∀{gs:List Nat} {L:List Inq} {i g:Nat} {q:Inq},gs.length=L.length→gs[i]? =some g→L[i]? =some q→(QD n gs L)[i*2]? =some (.slice (some ⟨g,0,none⟩) n n)∧(QD n gs L)[i*2+1]? =some (.int .i64 q.2)
 |a::gs,b::L,0,g,q,_,hg,hq=>by
  simp at hg hq;subst hg;subst hq;exact⟨rfl,rfl⟩
 |a::gs,b::L,i+1,g,q,h,hg,hq=>by
  have:=qe3 (n:=n) (gs:=gs) (L:=L) (i:=i) (g:=g) (q:=q) (by simpa using h) (by simpa using hg) (by simpa using hq)
  rw[show(i+1)*2=i*2+2 by omega];exact this
 | [],_,i,g,q,_,hg,_=>by simp at hg
 |_::_,[],i,g,q,h,_,_=>by simp at h
structure vj(w:World)(B:Nat)(v:Value)(n:Nat)(gs:List Nat)(L:List Inq):Prop where
 len:gs.length=L.length
 row:w.ownsRow B 101 2 v L.length (QD n gs L)
 co:∀(i g:Nat) (q:Inq),gs[i]? =some g→L[i]? =some q→B≤g∧q.1.length=n∧zY w g q.1
section
variable{w w':World}{B n:Nat}{v:Value}{gs:List Nat}{L:List Inq}
theorem vj.keep(h:vj w B v n gs L)(hb:Below w.heap.size w w'):vj w' B v n gs L:=
 ⟨h.len,qo h.row hb (zZ h.row),fun i g q hg hq=>by
  obtain⟨h1,h2,h3⟩:=h.co i g q hg hq;exact⟨h1,h2,h3.keep hb⟩⟩
theorem vj.snoc(h:vj w B v n gs L){o:Obj}{g9 c9 g:Nat}{q:Inq}{w9:World}(hg:B≤g∧zY w g q.1)(hq:q.1.length=n)(hown:w9.ownsRow B 101 2 (.slice (some ⟨g9,0,none⟩) (L.length+1) c9) (L.length+1) (QD n gs L++Qi n g q.2))(hgrow:(w.alloc o).grownBy w9 v.ownBlock):
  vj w9 B (.slice (some ⟨g9,0,none⟩) (L.length+1) c9) n (gs++[g]) (L++[q]):=by
 have hne:∀{x:Nat} {l:List Int},zY w x l→v.ownBlock≠some x:=fun {x l} hx e=>by
  rcases h.row.2 with⟨hv,_⟩|⟨g',cap,cur,hv,_,hh,_⟩
  ·rw[hv]at e;simp[Value.ownBlock]at e
  ·rw[hv]at e;have:g'=x:=by simpa[Value.ownBlock]using e
   subst this;unfold zY ze at hx;rw[hx]at hh;injection hh with hh;injection hh with _ h2 _;exact absurd h2 (by decide)
 have hk:∀{x:Nat} {l:List Int},zY w x l→zY w9 x l:=fun {x l} hx=>by
  have hlt:=ze.lt hx;have h1:(w.alloc o).heap[x]? =w.heap[x]? :=Below.heap_alloc w o x hlt;exact((hgrow.block x (by simp;omega) (fun e=>hne hx e.symm)).trans h1).trans hx
 refine⟨by rw[Xt,Xt,h.len];rfl,?_,fun i a b ha hb=> ?_⟩
 ·rw[qba h.len,Xt];exact hown
 ·rcases Xj i L.length with r|r
  ·rw[XJ (by rw[h.len];exact r)]at ha;rw[XJ r]at hb;obtain⟨h1,h2,h3⟩:=h.co i a b ha hb;exact⟨h1,h2,hk h3⟩
  ·have hi:i<(L++[q]).length:=(Xw.mp hb).1;have:i=L.length:=by simp at hi;omega
   subst this;rw[XM (by rw[h.len];exact zn _)]at ha;rw[XM (zn _)]at hb;simp[h.len]at ha hb;subst ha;subst hb;exact⟨hg.1,hq,hk hg.2⟩
theorem vj.app{g0 c0 nn:Nat}(h:vj w B (.slice (some ⟨g0,0,none⟩) nn c0) n gs L)(hN:L.length=nn){o:Obj}{g9 c9 g:Nat}{q:Inq}{w9:World}(hg:B≤g∧zY w g q.1)(hq:q.1.length=n)(hown:w9.ownsRow B 101 2 (.slice (some ⟨g9,0,none⟩) (nn+1) c9) (nn+1) (QD n gs L++Qi n g q.2))(hgrow:(w.alloc o).grownBy w9 (Value.slice (some ⟨g0,0,none⟩) nn c0).ownBlock):
  vj w9 B (.slice (some ⟨g9,0,none⟩) (nn+1) c9) n (gs++[g]) (L++[q]):=by
 subst hN;exact h.snoc hg hq hown hgrow
theorem vj.row'{v:Value}{nn:Nat}(h:vj w B v n gs L)(hN:L.length=nn):w.ownsRow B 101 2 v nn (QD n gs L):=by
 subst hN;exact h.row
theorem qrv(n g:Nat)(most:Int):∀u ∈Qi n g most,u.oneCell'=true:=fun u hu=>by
 unfold Qi at hu;simp at hu;rcases hu with rfl|rfl<;>rfl
theorem qul(w:World)(n g:Nat)(most:Int):∀(j:Nat) (u:Value),(Qi n g most)[j]? =some u→(w.alloc (.cells #[.slice (some ⟨g,0,none⟩) n n,.int .i64 most] 101)).cell? ((⟨w.heap.size,0,none⟩:Addr).add j)=some u:=fun j u hj=>by
 have hc:=qa w [.slice (some ⟨g,0,none⟩) n n,.int .i64 most] 101;have e:(⟨w.heap.size,0,none⟩:Addr).add j=⟨w.heap.size,j,none⟩:=by unfold Addr.add;split<;>simp_all
 rw[e];exact hc j u hj
theorem vj.one{g:Nat}{q:Inq}(hg:B≤g∧zY w g q.1)(hq:q.1.length=n)(hB:B≤w.heap.size):
  vj (w.alloc (.cells #[.slice (some ⟨g,0,none⟩) n n,.int .i64 q.2] 101)) B (.slice (some ⟨w.heap.size,0,none⟩) 1 1) n [g] [q]:=
 ⟨rfl,⟨rfl,.inr ⟨w.heap.size,1,#[.slice (some ⟨g,0,none⟩) n n,.int .i64 q.2],rfl,hB,XO _ _,zn _,by unfold maxLen;omega,rfl,rfl⟩⟩,fun i a b ha hb=>by
  match i,ha,hb with
  |0,ha,hb=>
   simp at ha hb;subst ha;subst hb;exact⟨hg.1,hq,hg.2.keep ((zb _ _).alloc (zn _) _)⟩
  |i+1,ha,hb=>simp at ha⟩
theorem vj.at_{g' c:Nat}(h:vj w B (.slice (some ⟨g',0,none⟩) L.length c) n gs L){i:Nat}{q:Inq}(hq:L[i]? =some q):∃g,w.cell? ⟨g',i*2,none⟩=some (.slice (some ⟨g,0,none⟩) n n)∧w.cell? ⟨g',i*2+1,none⟩=some (.int .i64 q.2)∧zY w g q.1∧q.1.length=n∧g'<w.heap.size∧g<w.heap.size:=by
 have hi:i<gs.length:=by rw[h.len];exact(Xw.mp hq).1
 obtain⟨e0,e1⟩:=qe3 (n:=n) h.len (Xc hi) hq;obtain⟨h1,h2,h3⟩:=h.co i _ q (Xc hi) hq;obtain⟨hb,hc⟩:=JQ h.row;exact⟨gs[i],(hc _ _ e0).1,(hc _ _ e1).1,h3,h2,(hc _ _ e0).2,ze.lt h3⟩
end
end Go.Proofs.YtcmiljnbmgkdnaaGreat
