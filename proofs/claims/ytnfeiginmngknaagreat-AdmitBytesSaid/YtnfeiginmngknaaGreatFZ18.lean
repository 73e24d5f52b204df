import Derived.Test.YtnfeiginmngknaaGreatFZ17
import Derived.Test.YtnfeiginmngknaaGreatFZ16
import Derived.Test.YtnfeiginmngknaaGreatFZ10
namespace Go.Proofs.YtnfeiginmngknaaGreat
set_option maxRecDepth 100000
set_option linter.unusedVariables false
set_option linter.unusedSimpArgs false
open Go.ChangeShapes Go.WideShapes Go.ChangeAt Go.RowKit
set_option maxHeartbeats 1600000 in
theorem q3n(m:za)(f:Int)(r:Bool)(hr:(decide (0<=f)&& decide (f<m.methods.length))=r)(h:zh)(w:World)(H:zr w w.heap.size h m):
  Calls Tryz.prog 152 #[zv h m,.int .i64 f] w fun e w'=>e= .returned (.bool r)/\Below w.heap.size w w':=by
 have HW:=zH (zk (w:=w) (o:=(ze h m)));have HBX:=zH (qd w h m);have hle:=H.methods.le;have hcap:=H.methods.cap;clear H;by_cases h0:0<=f
 ·by_cases h1:f<m.methods.length
  ·have e:r=true:=by rw[<-hr,Xi h0,Xi h1];rfl
   subst e;clear hr;go_enter Tryz.func152,Tryz.ntmps152;go_upto_region 1 with fail
   generalize w.alloc (ze h m)=w1 at*
   obtain⟨q0,q1,q2,q3,q4,q5,q6⟩:=HBX.out;go_wp2_with fail
   go_ret;exact⟨rfl,HW.out⟩
  ·have e:r=false:=by rw[<-hr,Xf h1,Bool.and_false]
   subst e;clear hr;go_enter Tryz.func152,Tryz.ntmps152;go_upto_region 1 with fail
   generalize w.alloc (ze h m)=w1 at*
   obtain⟨q0,q1,q2,q3,q4,q5,q6⟩:=HBX.out;go_wp2_with fail
   go_ret;exact⟨rfl,HW.out⟩
 ·have e:r=false:=by rw[<-hr,Xf h0,Bool.false_and]
  subst e;clear hr;go_enter Tryz.func152,Tryz.ntmps152;go_upto_region 1 with fail
  generalize w.alloc (ze h m)=w1 at*
  obtain⟨q0,q1,q2,q3,q4,q5,q6⟩:=HBX.out;go_wp2_with fail
  go_ret;exact⟨rfl,HW.out⟩
theorem Dn{m:za}{f:Int}{r:Bool}{h:zh}{w0 w:World}(HI:Hid (zr w0 w0.heap.size h m))(HX:Hid (Below w0.heap.size w0 w))(HR:Hid ((decide (0<=f)&& decide (f<m.methods.length))=r)):
  Calls Tryz.prog 152 #[zv h m,.int .i64 f] w fun e w'=>e= .returned (.bool r)/\Below w.heap.size w w':=by
 exact q3n m f r HR.out h w (HI.out.now HX.out)
set_option maxHeartbeats 3200000 in
theorem q9f(m:za)(a b:Int)(h:zh)(w:World)(H:zr w w.heap.size h m)(hn:m.classes.length<=1000):
  Calls Tryz.prog 185 #[zv h m,.int .i64 a,.int .i64 b] w (ZR (QO m b (YS m.classes a)) w):=by
 obtain⟨L,hL⟩:=zj (YS m.classes a);rw[hL];have Qx:L.length<=1000:=by rw[<-hL];exact Xe (uN _ _ _) hn
 have Oq:=zH hL;clear hL;obtain⟨i0,hi,hz0,hz1,hz2⟩:=info_parts ZL;have HW:=zH (zk (w:=w) (o:=(ze h m)));have zO:=zH (H.now HW.out);have HBX:=zH (qd w h m);have HZ:Hid (w.heap.size<(w.alloc (ze h m)).heap.size):=zH (by simp);have hn1:=hn;have hkc:=H.classes.cap;clear H;go_enter Tryz.func185,Tryz.ntmps185;go_upto_region 1 with fail
 generalize w.alloc (ze h m)=w1 at*
 have HX0:=qP w1;obtain⟨q0,q1,q2,q3,q4,q5,q6⟩:=HBX.out;go_wp2_with(go_at_call 198;(with_reducible refine(qeo zO HX0 Oq hn1).mono ?_);rintro e w5 ⟨v5,rfl,ho,hb⟩;have HX:=zH hb;obtain⟨A5,c5,rfl,hl5,g1,g2⟩:=Ji ho;have qh:=zH hl5;clear hb ho hl5)
 go_loopw [7,16] (fun v i wr=>∃k:Nat,k<=L.length/\i= .int .i64 k/\Hid (wr.ownsRow w1.heap.size 3 1 v (QO m b (L.take k)).length ((QO m b (L.take k)).map (Value.int .i64)))/\Hid (Below w1.heap.size w1 wr)/\Hid (zw wr w5.heap.size A5 (L.map (Value.int .i64)))/\Hid (fA v A5)/\Hid (w5.heap.size<=wr.heap.size)) (fun _ i _=>L.length - (intOf i).toNat)
 case atStart=>exact⟨0,Xn _,rfl,zH (XM _ _ _ _),HX,qh,zH (fun g hg=>by simp[Value.ownBlock]at hg),zH (zn _)⟩
 case round=>
  clear HX qh q0 q1 q2 q3 q4 q5 q6;obtain⟨k,hk,rfl,HO,HX,qh,aQ,Vl⟩:=hrel;by_cases hlt:k<L.length
  ·obtain⟨ad,rfl,hab,hc0⟩:=qh.out k (.int .i64 L[k]) (by rw[XF,Xc hlt];rfl);have hs:=Pk (m:=m) (b:=b) hlt;have hyl:(QO m b (L.take k)).length<=1000:=Xe (IA _ _ _) (by rw[XW];omega);obtain⟨q,hq⟩:=zj (L[k]);rw[hq]at hs hc0;have p:=hc0;have MU:Hid (∀ad',some ad=some ad'->ad'.block<w5.heap.size):=zH (fun ad' e=>by injection e with e;subst e;exact hab);obtain⟨o,ho⟩:=zj (kP m.classes q b);rw[ho]at hs;have uy:=zH ho;have HS:=zH hs;clear hs ho hq hab hc0;generalize QO m b (L.take k)=Y at*
   obtain⟨q0,q1,q2,q3,q4,q5,q6⟩:=HBX.out.keep HX.out HZ.out;have q2q:=HX.out.size;cases o with
   |none=>
    go_wp2_with(go_at_call 194;(with_reducible refine(Lh zO HX uy).mono ?_);rintro e w2 ⟨rfl,hb⟩;have HX2:=zH (HX.out.trans (hb.mono HX.out.size));have uh:=zH ((qh.out.below_to hb Vl.out):zw w2 w5.heap.size (some ad) (L.map (Value.int .i64)));have dH:Hid (w5.heap.size<=w2.heap.size):=zH (Xe Vl.out hb.size);have qm:=kpO HO hb;clear hb)
    go_roundw;case rel=>exact⟨k+1,by omega,by go_num,zH (by rw[HS.out,Option.toList_none,List.append_nil];exact qm.out),HX2,uh,aQ,dH⟩
    case measure=>simp[intOf];omega
   |some g=>
    go_wp2_with(first
     |(go_at_call 194;(with_reducible refine(Lh zO HX uy).mono ?_);rintro e w2 ⟨rfl,hb⟩;have HX2:=zH (HX.out.trans (hb.mono HX.out.size));have uh:=zH ((qh.out.below_to hb Vl.out):zw w2 w5.heap.size (some ad) (L.map (Value.int .i64)));have dH:Hid (w5.heap.size<=w2.heap.size):=zH (Xe Vl.out hb.size);have qm:=kpO HO hb;have hsz2:=HX2.out.size;clear hb)
     |(at_builtin;refine wpList_append_lies _ rfl _ _ 27 rfl w1.heap.size 3 i0 (.int .i64 0) 1 8 Tryz.underlying27 hi hz0 hz1 hz2 rfl (by decide) _ _ _ rfl (qm.out.alloc _) ⟨_,0,none⟩ 1 1 [.int .i64 g] rfl rfl (AV _ _) (AC _) (by decide) (by unfold maxLen;omega) (by omega) (by simp;omega) _ rfl ?_;intro g9 c9 w3 hown' hgrow hor hlt9;have hR:=o6 qm.out hsz2 HX2.out hown' hgrow;have qa:=zH hR.1;have zp:=zH hR.2;have NT:=zH (I8 uh.out dH.out hgrow aQ.out);have Oi:Hid (fA (.slice (some ⟨g9,0,none⟩) (Y.length+1) c9) (some ad)):=zH (DN aQ.out MU.out hor (by have:=dH.out;simp;omega));have ME:Hid (w5.heap.size<=w3.heap.size):=zH (by have h1:=hgrow.size;have h2:=dH.out;simp at h1;omega);clear hown' hgrow hR hor hlt9))
    go_roundw;case rel=>exact⟨k+1,by omega,by go_num,zH (by rw[HS.out];exact qa.out),zp,NT,Oi,ME⟩
    case measure=>simp[intOf];omega
  ·obtain rfl:k=L.length:=by omega
   go_wp2_with fail
   go_ret;rw[XL]at HO;exact⟨_,rfl,js HO.out HW.out.size,zD HW HX⟩
theorem qe9{m:za}{a b:Int}{L:List Int}{h:zh}{w0 w:World}(HI:Hid (zr w0 w0.heap.size h m))(HX:Hid (Below w0.heap.size w0 w))(hn:m.classes.length<=1000)(HL:Hid (QO m b (YS m.classes a)=L)):
  Calls Tryz.prog 185 #[zv h m,.int .i64 a,.int .i64 b] w (ZR L w):=by
 have H:=q9f m a b h w (HI.out.now HX.out) hn;rw[HL.out]at H;exact H
set_option maxHeartbeats 1600000 in
theorem q9i(m:za)(op a b:Int)(h:zh)(w:World)(H:zr w w.heap.size h m)(hn:m.classes.length<=1000):
  Calls Tryz.prog 153 #[zv h m,qt op a b] w (ZR (qC m op a b) w):=by
 obtain⟨T,hT⟩:=zj (qC m op a b);rw[hT];have HT:=zH hT;clear hT;obtain⟨hq,hc,hb,hz⟩:=uP h m op a b w;have HW:=zH hb;have HC:=zH hc;have HZ:=zH hz;have HBX:=zH hq;have zO:=zH (H.now hb);have hn1:=hn;clear hb hq hc hz H hn;go_enter Tryz.func153,Tryz.ntmps153;go_upto_region 1 with fail
 generalize(w.alloc (ze h m)).alloc (.cells #[.int .i64 op,.int .i64 a,.int .i64 b] 50)=w1 at*
 have HX0:=qP w1;obtain⟨q0,q1,q2,q3,q4,q5,q6⟩:=HBX.out;have j0:=HC.out 0 _ rfl;have j1:=HC.out 1 _ rfl;have j2:=HC.out 2 _ rfl;by_cases h31:op=31
 ·subst h31;have e:[a]=T:=HT.out;subst e;go_wp2_with fail
  go_ret;have hb:Below w1.heap.size w1 (w1.alloc (.cells #[.int .i64 a] 3)):=zk;refine⟨_,rfl,⟨rfl,.inr ⟨w1.heap.size,1,#[.int .i64 a],rfl,HW.out.size,Xz _ _,zn _,by unfold maxLen;omega,rfl,rfl⟩⟩,HW.out.trans (hb.mono HW.out.size)⟩
 ·by_cases h32:op=32
  ·subst h32;have HL:Hid (QO m b (YS m.classes a)=T):=zH HT.out;go_wp2_with(go_at_call 185;(with_reducible refine(qe9 zO HX0 hn1 HL).mono ?_);rintro e w5 ⟨v5,rfl,ho,hb⟩;have HO:=zH ho;have HX:=zH hb;clear hb ho)
   go_ret;exact⟨v5,rfl,js HO.out HW.out.size,zD HW HX⟩
  ·have e:[]=T:=by have:=HT.out;unfold qC at this;rw[Xa h31,Xa h32]at this;exact this
   subst e;go_wp2_with fail
   go_ret;exact⟨_,rfl,XM _ _ _ _,HW.out⟩
theorem qei{m:za}{op a b:Int}{L:List Int}{h:zh}{w0 w:World}(HI:Hid (zr w0 w0.heap.size h m))(HX:Hid (Below w0.heap.size w0 w))(hn:m.classes.length<=1000)(HL:Hid (qC m op a b=L)):
  Calls Tryz.prog 153 #[zv h m,qt op a b] w (ZR L w):=by
 have H:=q9i m op a b h w (HI.out.now HX.out) hn;rw[HL.out]at H;exact H
section
variable{w:World}{g g':Nat}{h h':zh}{a b:za}{r:Bool}
theorem K7(HA:Hid (Boxed w g h a))(HR:Hid (zV a=r)):Calls Tryz.prog 6 #[zv h a] w fun e w'=>e= .returned (.bool r)/\Below w.heap.size w w':=by
 have H:=y8 a h w.heap.size w (zn _) HA.out.img;rw[HR.out]at H;exact H
end
