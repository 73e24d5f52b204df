import Derived.Lib.SlBytesConst
import Derived.Test.YtcmiljnbmgkdnaaGreatFA07
namespace Go.Proofs.YtcmiljnbmgkdnaaGreat
set_option maxRecDepth 100000
set_option linter.unusedVariables false
set_option linter.unusedSimpArgs false
open Go.ChangeShapes Go.WideShapes Go.ChangeAt Go.RowKit
def jZ(c:zO):Bool:=zS c.sup (-1) 7&& (kL c.fields 8&& kC c.slots 4 11)
def VL(l:List (Int×Int×Int)):Bool:=l.all fun i=>qp i.1 i.2.1 i.2.2
def qY(x:zf):Bool:=kL x.args 4&& (kL x.locals 8&& (qi x.ret&& (decide ((x.code.length:Int)≤64)&& (zS x.depth 0 8&& (zS x.pot 0 4096&& (kC x.phi 64 4096&& VL x.code))))))
def Zu(m:za):Bool:=decide ((m.classes.length:Int)≤8)&& (decide ((m.ints.length:Int)≤16)&& (decide ((m.methods.length:Int)≤12)&& (kL m.statics 8&& (kC m.entries 12 11&& (zS m.stack 0 4096&& zS m.heap 0 4096)))))
def zT(m:za):Bool:=Zu m&& (m.classes.all jZ&& m.methods.all qY)
theorem JP{l:List (Int×Int)}{n:Int}{A:Option Addr}{cap B:Nat}{w0 w:World}{r:Bool}(HL:Hid (zd zh 2 w0 B A cap l))(HB:Hid (B≤w0.heap.size))(HX:Hid (Below w0.heap.size w0 w))(HR:Hid (kL l n=r)):
  Calls Tryz.prog 32 #[.slice A l.length cap,.int .i64 n] w fun e w'=>e= .returned (.bool r)∧Below w.heap.size w w':=by
 have h:=qhx l n A cap B w (Xg HB.out HX.out.size) (HL.out.below_to zh.keeps HX.out HB.out);rw[HR.out]at h;exact h
theorem Vu{l:List Int}{n most:Int}{A:Option Addr}{cap B:Nat}{w0 w:World}{r:Bool}(HL:Hid (zd zq 1 w0 B A cap l))(HB:Hid (B≤w0.heap.size))(HX:Hid (Below w0.heap.size w0 w))(HR:Hid (kC l n most=r)):
  Calls Tryz.prog 33 #[.slice A l.length cap,.int .i64 n,.int .i64 most] w fun e w'=>e= .returned (.bool r)∧w=w':=by
 have h:=qmz l n most A cap B w (Xg HB.out HX.out.size) (HL.out.below_to zq.keeps HX.out HB.out);rw[HR.out]at h;exact h
theorem qdt{t:Int×Int}{w:World}{r:Bool}(HR:Hid (qi t=r)):Calls Tryz.prog 35 #[zA t.1 t.2] w fun e w'=>e= .returned (.bool r)∧Below w.heap.size w w':=by
 have h:=q5c t w;rw[HR.out]at h;exact h
theorem Yv{P:Prop}(h:P:=by
 go_wp2_with(first|((first|(go_at_call 32;(with_reducible refine(JP HSa HB2 HX2 D1).mono ?_))|(go_at_call 32;(with_reducible refine(JP HSl HB2 HX2 D2).mono ?_))|(go_at_call 35;(with_reducible refine(qdt D3).mono ?_)));rintro e w' ⟨rfl,hb⟩;have HXc:=zl HXc hb;have HX2:=zl HX2 hb;obtain⟨r0,r1,r2,r3,r4,r5,r6,r7⟩:=ck8 (HBC.out.keep HX2.out HZ2.out);clear hb)|((first|(go_at_call 34;(with_reducible refine(kp D5).mono ?_))|(go_at_call 34;(with_reducible refine(kp D6).mono ?_))|(go_at_call 33;(with_reducible refine(Vu HSp HB2 HX2 D7).mono ?_)));rintro e w' ⟨rfl,rfl⟩))
 go_ret;exact⟨by rw[E2.out];rfl,HW.out.trans (HXc.out.mono HZ'.out)⟩):P:=h
theorem Yu{P:Prop}(h:P:=by
 go_wp2_with(first|(go_at_call 32;(with_reducible refine(JP HS1 HB HX H4).mono ?_);rintro e w' ⟨rfl,hb⟩;have HX:=zl HX hb;obtain⟨q0,q1,q2,q3,q4,q5,q6⟩:=HBX.out.keep HX.out HZ.out;clear hb)|((first|(go_at_call 33;(with_reducible refine(Vu HS4 HB HX H5).mono ?_))|(go_at_call 34;(with_reducible refine(kp H6).mono ?_))|(go_at_call 34;(with_reducible refine(kp H7).mono ?_)));rintro e w' ⟨rfl,rfl⟩))
 go_ret;exact⟨by rw[E2.out];rfl,HW.out.trans (HX.out.mono HZ'.out)⟩):P:=h
theorem q3a{P:Prop}(h:P:=by
 have E2:=zH (show zT m=false by unfold zT;rw[HNOT.out (by unfold jZ;simp[D1.out,D2.out,D3.out])];simp);go_wp2_with(first|(go_at_call 34;(with_reducible refine(kp D1).mono ?_);rintro e w' ⟨rfl,rfl⟩)|(go_at_call 32;(with_reducible refine(JP HSf HB2 HX2 D2).mono ?_);rintro e w' ⟨rfl,hb⟩;have HXc:=zl HXc hb;have HX2:=zl HX2 hb;obtain⟨r0,r1,r2⟩:=zM (HBC.out.keep HX2.out HZ2.out);clear hb)|(go_at_call 33;(with_reducible refine(Vu HSs HB2 HX2 D3).mono ?_);rintro e w' ⟨rfl,rfl⟩))
 go_ret;exact⟨by rw[E2.out];rfl,HW.out.trans (HXc.out.mono HZ'.out)⟩):P:=h
set_option maxHeartbeats 6400000 in
theorem q1y(m:za)(h:zg)(B:Nat)(w:World)(hB:B≤w.heap.size)(H:zi w B h m):
  Calls Tryz.prog 15 #[zk h m] w fun e w'=>e= .returned (.bool (zT m))∧Below w.heap.size w w':=by
 have HW:=zH ((zb w.heap.size w).alloc (zn _) (zo h m));have HIM:=zH (H.below_to HW.out hB);have HBX:=zH (zX w h m);have HB:Hid (B≤(w.alloc (zo h m)).heap.size):=zH (Xg hB HW.out.size);have HZ:Hid (w.heap.size<(w.alloc (zo h m)).heap.size):=zH (by simp);have HZ':Hid (w.heap.size≤(w.alloc (zo h m)).heap.size):=zH (by simp);have HX:Hid (Below (w.alloc (zo h m)).heap.size (w.alloc (zo h m)) (w.alloc (zo h m))):=zH (zb _ _);have HS1:=zH HIM.out.statics;have HS4:=zH HIM.out.entries;have bounds:m.classes.length≤9223372036854775807∧m.ints.length≤9223372036854775807∧m.methods.length≤9223372036854775807:=by
  have:=HIM.out.classes.le;have:=HIM.out.classes.cap;have:=HIM.out.ints.le;have:=HIM.out.ints.cap;have:=HIM.out.methods.le;have:=HIM.out.methods.cap;omega
 obtain⟨bb0,bb1,bb2⟩:=bounds;obtain⟨b4,h4⟩:∃b,kL m.statics 8=b:=⟨_,rfl⟩
 have H4:=zH h4;obtain⟨b5,h5⟩:∃b,kC m.entries 12 11=b:=⟨_,rfl⟩
 have H5:=zH h5;obtain⟨b6,h6⟩:∃b,zS m.stack 0 4096=b:=⟨_,rfl⟩
 have H6:=zH h6;obtain⟨b7,h7⟩:∃b,zS m.heap 0 4096=b:=⟨_,rfl⟩
 have H7:=zH h7;clear hB H h4 h5 h6 h7;go_enter Tryz.func15,Tryz.ntmps15;by_cases c0:(8:Int)<m.classes.length
 ·have E2:=zH (show zT m=false by unfold zT Zu;rw[Xf (by omega)];rfl);exact Yu
 by_cases c1:(16:Int)<m.ints.length
 ·have E2:=zH (show zT m=false by unfold zT Zu;rw[Xh (by omega),Xf (p:=(m.ints.length:Int)≤16) (by omega)];rfl);exact Yu
 by_cases c2:(12:Int)<m.methods.length
 ·have E2:=zH (show zT m=false by unfold zT Zu;rw[Xh (by omega),Xh (p:=(m.ints.length:Int)≤16) (by omega),Xf (p:=(m.methods.length:Int)≤12) (by omega)];rfl);exact Yu
 cases b4
 ·have E2:=zH (show zT m=false by unfold zT Zu;simp[H4.out,H5.out,H6.out,H7.out]);exact Yu
 ·cases b5
  ·have E2:=zH (show zT m=false by unfold zT Zu;simp[H4.out,H5.out,H6.out,H7.out]);exact Yu
  ·cases b6
   ·have E2:=zH (show zT m=false by unfold zT Zu;simp[H4.out,H5.out,H6.out,H7.out]);exact Yu
   ·cases b7
    ·have E2:=zH (show zT m=false by unfold zT Zu;simp[H4.out,H5.out,H6.out,H7.out]);exact Yu
    ·have HHD:=zH (show Zu m=true by unfold Zu;rw[Xh (by omega),Xh (p:=(m.ints.length:Int)≤16) (by omega),Xh (p:=(m.methods.length:Int)≤12) (by omega),H4.out,H5.out,H6.out,H7.out];rfl);go_wp2_with(first|(go_at_call 32;(with_reducible refine(JP HS1 HB HX H4).mono ?_);rintro e w' ⟨rfl,hb⟩;have HX:=zl HX hb;obtain⟨q0,q1,q2,q3,q4,q5,q6⟩:=HBX.out.keep HX.out HZ.out;clear hb)|((first|(go_at_call 33;(with_reducible refine(Vu HS4 HB HX H5).mono ?_))|(go_at_call 34;(with_reducible refine(kp H6).mono ?_))|(go_at_call 34;(with_reducible refine(kp H7).mono ?_)));rintro e w' ⟨rfl,rfl⟩))
     go_loopw [3] (fun i wr=>∃k:Nat,k≤m.classes.length∧i= .int .i64 k∧Hid (∀c ∈m.classes.take k,jZ c=true)∧Hid (Below (w.alloc (zo h m)).heap.size (w.alloc (zo h m)) wr)) (fun i _=>m.classes.length - (intOf i).toNat)
     case atStart=>exact⟨0,by omega,rfl,zH (by simp),HX⟩
     case round=>
      clear HX q0 q1 q2 q3 q4 q5 q6;obtain⟨k,hk,rfl,HN,HX⟩:=hrel;obtain⟨q0,q1,q2,q3,q4,q5,q6⟩:=HBX.out.keep HX.out HZ.out;have bc1:=HIM.out.classes.le;have bc2:=HIM.out.classes.cap;by_cases hlt:k<m.classes.length
      ·obtain⟨ad,e0,hab,hc⟩:=(HIM.out.classes.below_to jW.keeps HX.out HB.out).row.at_ hlt;rw[e0]at q0;clear e0;have HNOT:=zH (fun g:jZ m.classes[k]=false=>vb hlt g);have HYES:=zH (fun g:jZ m.classes[k]=true=>jT hlt HN.out g);generalize m.classes[k]=c at*
       obtain⟨s0,⟨A1,k1,s1,hs1⟩,⟨A2,k2,s2,hs2⟩⟩:=hc;obtain⟨d1,hd1⟩:∃b,zS c.sup (-1) 7=b:=⟨_,rfl⟩
       have D1:=zH hd1;obtain⟨d2,hd2⟩:∃b,kL c.fields 8=b:=⟨_,rfl⟩
       have D2:=zH hd2;obtain⟨d3,hd3⟩:∃b,kC c.slots 4 11=b:=⟨_,rfl⟩
       have D3:=zH hd3;have hA:Below wr.heap.size wr (wr.alloc (.cells #[.int .i64 c.sup,.slice A1 c.fields.length k1,.slice A2 c.slots.length k2] 81)):=(zb _ _).alloc (zn _) _;have hBr:B≤wr.heap.size:=Xg HB.out HX.out.size;have HXc:=zl HX hA;have HSf:=zH (hs1.below_to zh.keeps hA hBr);have HSs:=zH (hs2.below_to zq.keeps hA hBr);have HB2:=zH (Xg hBr hA.size);have HBC:=zH (qa wr [.int .i64 c.sup,.slice A1 c.fields.length k1,.slice A2 c.slots.length k2] 81);have HZ2:Hid (wr.heap.size<(wr.alloc (.cells #[.int .i64 c.sup,.slice A1 c.fields.length k1,.slice A2 c.slots.length k2] 81)).heap.size):=zH (by simp);clear hd1 hd2 hd3 hA hBr hs1 hs2 hab;go_upto_region 7 with fail
       generalize wr.alloc (.cells #[.int .i64 c.sup,.slice A1 c.fields.length k1,.slice A2 c.slots.length k2] 81)=w2 at*
       have HX2:Hid (Below w2.heap.size w2 w2):=zH (zb _ _);obtain⟨r0,r1,r2⟩:=zM HBC.out;cases d1
       ·exact q3a
       ·cases d2
        ·exact q3a
        ·cases d3
         ·exact q3a
         ·have HOK:=zH (HYES.out (by unfold jZ;rw[D1.out,D2.out,D3.out];rfl));go_wp2_with(first|(go_at_call 34;(with_reducible refine(kp D1).mono ?_);rintro e w' ⟨rfl,rfl⟩)|(go_at_call 32;(with_reducible refine(JP HSf HB2 HX2 D2).mono ?_);rintro e w' ⟨rfl,hb⟩;have HXc:=zl HXc hb;have HX2:=zl HX2 hb;obtain⟨r0,r1,r2⟩:=zM (HBC.out.keep HX2.out HZ2.out);clear hb)|(go_at_call 33;(with_reducible refine(Vu HSs HB2 HX2 D3).mono ?_);rintro e w' ⟨rfl,rfl⟩))
          go_roundw;case rel=>exact⟨k+1,by omega,by go_num,HOK,HXc⟩
          case measure=>simp[intOf];omega
      ·have HCA:=zH (vc HN.out (show m.classes.length≤k by omega));clear HN;go_wp2_with fail
       go_loopw [5] (fun i wr=>∃k:Nat,k≤m.methods.length∧i= .int .i64 k∧Hid (∀x ∈m.methods.take k,qY x=true)∧Hid (Below (w.alloc (zo h m)).heap.size (w.alloc (zo h m)) wr)) (fun i _=>m.methods.length - (intOf i).toNat)
       case atStart=>exact⟨0,by omega,rfl,zH (by simp),HX⟩
       case round=>
        clear HX q0 q1 q2 q3 q4 q5 q6 hlt hk;obtain⟨k,hk,rfl,HN,HX⟩:=hrel;obtain⟨q0,q1,q2,q3,q4,q5,q6⟩:=HBX.out.keep HX.out HZ.out;have bc3:=HIM.out.methods.le;have bc4:=HIM.out.methods.cap;by_cases hlt:k<m.methods.length
        ·obtain⟨ad,e0,hab,hc⟩:=(HIM.out.methods.below_to vN.keeps HX.out HB.out).row.at_ hlt;rw[e0]at q3;clear e0;have HNOT:=zH (fun g:qY m.methods[k]=false=>vb hlt g);have HYES:=zH (fun g:qY m.methods[k]=true=>jT hlt HN.out g);generalize m.methods[k]=x at*
         obtain⟨⟨A0,k0,s0,hs0⟩,⟨A1,k1,s1,hs1⟩,s2,s3,⟨A4,k4,s4,hs4⟩,s5,s6,⟨A7,k7,s7,hs7⟩⟩:=hc;obtain⟨d1,hd1⟩:∃b,kL x.args 4=b:=⟨_,rfl⟩
         have D1:=zH hd1;obtain⟨d2,hd2⟩:∃b,kL x.locals 8=b:=⟨_,rfl⟩
         have D2:=zH hd2;obtain⟨d3,hd3⟩:∃b,qi x.ret=b:=⟨_,rfl⟩
         have D3:=zH hd3;obtain⟨d5,hd5⟩:∃b,zS x.depth 0 8=b:=⟨_,rfl⟩
         have D5:=zH hd5;obtain⟨d6,hd6⟩:∃b,zS x.pot 0 4096=b:=⟨_,rfl⟩
         have D6:=zH hd6;obtain⟨d7,hd7⟩:∃b,kC x.phi 64 4096=b:=⟨_,rfl⟩
         have D7:=zH hd7;have hA:Below wr.heap.size wr (wr.alloc (.cells #[.slice A0 x.args.length k0,.slice A1 x.locals.length k1,.int .i64 x.ret.1,.int .i64 x.ret.2,.slice A4 x.code.length k4,.int .i64 x.depth,.int .i64 x.pot,.slice A7 x.phi.length k7] 53)):=(zb _ _).alloc (zn _) _;have hBr:B≤wr.heap.size:=Xg HB.out HX.out.size;have HXc:=zl HX hA;have HSa:=zH (hs0.below_to zh.keeps hA hBr);have HSl:=zH (hs1.below_to zh.keeps hA hBr);have hs4:=hs4.below_to jb.keeps hA hBr;have HSp:=zH (hs7.below_to zq.keeps hA hBr);have HB2:=zH (Xg hBr hA.size);have HBC:=zH (qa wr [.slice A0 x.args.length k0,.slice A1 x.locals.length k1,.int .i64 x.ret.1,.int .i64 x.ret.2,.slice A4 x.code.length k4,.int .i64 x.depth,.int .i64 x.pot,.slice A7 x.phi.length k7] 53);have HZ2:Hid (wr.heap.size<(wr.alloc (.cells #[.slice A0 x.args.length k0,.slice A1 x.locals.length k1,.int .i64 x.ret.1,.int .i64 x.ret.2,.slice A4 x.code.length k4,.int .i64 x.depth,.int .i64 x.pot,.slice A7 x.phi.length k7] 53)).heap.size):=zH (by simp);clear hd1 hd2 hd3 hd5 hd6 hd7 hA hBr hs0 hs1 hs7 hab;go_upto_region 13 with fail
         generalize wr.alloc (.cells #[.slice A0 x.args.length k0,.slice A1 x.locals.length k1,.int .i64 x.ret.1,.int .i64 x.ret.2,.slice A4 x.code.length k4,.int .i64 x.depth,.int .i64 x.pot,.slice A7 x.phi.length k7] 53)=w2 at*
         have HX2:Hid (Below w2.heap.size w2 w2):=zH (zb _ _);have HWX:=HXc;obtain⟨r0,r1,r2,r3,r4,r5,r6,r7⟩:=ck8 HBC.out;cases d1
         ·have E2:=zH (show zT m=false by unfold zT;rw[HNOT.out (by unfold qY;rw[D1.out];rfl)];simp);exact Yv
         ·cases d2
          ·have E2:=zH (show zT m=false by unfold zT;rw[HNOT.out (by unfold qY;rw[D1.out,D2.out];rfl)];simp);exact Yv
          ·cases d3
           ·have E2:=zH (show zT m=false by unfold zT;rw[HNOT.out (by unfold qY;rw[D1.out,D2.out,D3.out];rfl)];simp);exact Yv
           ·by_cases c4:(64:Int)<x.code.length
            ·have E2:=zH (show zT m=false by unfold zT;rw[HNOT.out (by unfold qY;rw[D1.out,D2.out,D3.out,Xf (p:=(x.code.length:Int)≤64) (by omega)];rfl)];simp);exact Yv
            cases d5
            ·have E2:=zH (show zT m=false by unfold zT;rw[HNOT.out (by unfold qY;rw[D1.out,D2.out,D3.out,Xh (p:=(x.code.length:Int)≤64) (by omega),D5.out];rfl)];simp);exact Yv
            ·cases d6
             ·have E2:=zH (show zT m=false by unfold zT;rw[HNOT.out (by unfold qY;rw[D1.out,D2.out,D3.out,Xh (p:=(x.code.length:Int)≤64) (by omega),D5.out,D6.out];rfl)];simp);exact Yv
             ·cases d7
              ·have E2:=zH (show zT m=false by unfold zT;rw[HNOT.out (by unfold qY;rw[D1.out,D2.out,D3.out,Xh (p:=(x.code.length:Int)≤64) (by omega),D5.out,D6.out,D7.out];rfl)];simp);exact Yv
              ·have HE4:=zH hs4;go_wp2_with(first|((first|(go_at_call 32;(with_reducible refine(JP HSa HB2 HX2 D1).mono ?_))|(go_at_call 32;(with_reducible refine(JP HSl HB2 HX2 D2).mono ?_))|(go_at_call 35;(with_reducible refine(qdt D3).mono ?_)));rintro e w' ⟨rfl,hb⟩;have HXc:=zl HXc hb;have HX2:=zl HX2 hb;obtain⟨r0,r1,r2,r3,r4,r5,r6,r7⟩:=ck8 (HBC.out.keep HX2.out HZ2.out);clear hb)|((first|(go_at_call 34;(with_reducible refine(kp D5).mono ?_))|(go_at_call 34;(with_reducible refine(kp D6).mono ?_))|(go_at_call 33;(with_reducible refine(Vu HSp HB2 HX2 D7).mono ?_)));rintro e w' ⟨rfl,rfl⟩))
               go_loopw [7] (fun i wr=>∃j:Nat,j≤x.code.length∧i= .int .i64 j∧Hid (∀i ∈x.code.take j,qp i.1 i.2.1 i.2.2=true)∧Hid (Below w2.heap.size w2 wr)) (fun i _=>x.code.length - (intOf i).toNat)
               case atStart=>exact⟨0,by omega,rfl,zH (by simp),HX2⟩
               case round=>
                clear HX2 HXc r0 r1 r2 r3 r4 r5 r6 r7;obtain⟨j,hj,rfl,HM,HX3⟩:=hrel;obtain⟨r0,r1,r2,r3,r4,r5,r6,r7⟩:=ck8 (HBC.out.keep HX3.out HZ2.out);have bk1:=HE4.out.le;have bk2:=HE4.out.cap;by_cases hltj:j<x.code.length
                ·obtain⟨ad4,e4,hab4,t0,t1,t2⟩:=(HE4.out.below_to jb.keeps HX3.out HB2.out).row.at_ hltj;rw[e4]at r4;clear e4 hab4;have HCN:=zH (fun g:(fun i:Int×Int×Int=>qp i.1 i.2.1 i.2.2) x.code[j]=false=>(vb hltj g:VL x.code=false));have HCY:=zH (fun g:(fun i:Int×Int×Int=>qp i.1 i.2.1 i.2.2) x.code[j]=true=>jT hltj HM.out g);generalize x.code[j]=ins at*
                 obtain⟨op,a,b⟩:=ins;dsimp only at t0 t1 t2;obtain⟨g,hg⟩:∃g,qp op a b=g:=⟨_,rfl⟩
                 have G:=zH hg;clear hg;cases g
                 ·have E2:=zH (show zT m=false by unfold zT;rw[HNOT.out (by unfold qY;rw[show VL x.code=false from HCN.out G.out];simp)];simp);go_wp2_with(first|(go_at_call 36;(with_reducible refine(q8w op a b _).mono ?_);rintro e w' ⟨he,hb⟩;rw[G.out]at he;subst he;have HX3:=zl HX3 hb;clear hb))
                  go_ret;exact⟨by rw[E2.out];rfl,HW.out.trans ((HWX.out.trans (HX3.out.mono HWX.out.size)).mono HZ'.out)⟩
                 ·have HOK:=zH (HCY.out G.out);go_wp2_with(first|(go_at_call 36;(with_reducible refine(q8w op a b _).mono ?_);rintro e w' ⟨he,hb⟩;rw[G.out]at he;subst he;have HX3:=zl HX3 hb;clear hb))
                  go_roundw;case rel=>exact⟨j+1,by omega,by go_num,HOK,HX3⟩
                  case measure=>simp[intOf];omega
                ·have HCA:=zH (show VL x.code=true from vc HM.out (by omega));have HOK:=zH (HYES.out (by unfold qY;rw[D1.out,D2.out,D3.out,D5.out,D6.out,D7.out,HCA.out,Xh (p:=(x.code.length:Int)≤64) (by omega)];rfl));have HXD:=zH (HWX.out.trans (HX3.out.mono HWX.out.size));go_wp2_with fail
                 go_roundw;case rel=>exact⟨k+1,by omega,by go_num,HOK,HXD⟩
                 case measure=>simp[intOf];omega
        ·have HMA:=zH (vc HN.out (show m.methods.length≤k by omega));have E2:=zH (show zT m=true by unfold zT;rw[HHD.out,HCA.out,HMA.out];rfl);go_wp2_with fail
         go_ret;exact⟨by rw[E2.out];rfl,HW.out.trans (HX.out.mono HZ'.out)⟩
theorem ZX{n a b:Int}:zS n a b=true↔a≤n∧n≤b:=by unfold zS;simp
theorem q8f{t:Int×Int}(h:qi t=true):0≤t.1∧t.1≤5∧0≤t.2∧t.2≤7:=by
 have:=XN h;omega
theorem q13{l:List (Int×Int)}{n:Int}(h:kL l n=true):(l.length:Int)≤n∧∀t ∈l,0≤t.1∧t.1≤5∧0≤t.2∧t.2≤7:=by
 have:=XN h;exact⟨this.1,fun t ht=>q8f (this.2 t ht)⟩
theorem q3k{l:List Int}{n most:Int}(h:kC l n most=true):(l.length:Int)≤n∧∀t ∈l,0≤t∧t≤most:=XN h
theorem qdc{l:List (Int×Int×Int)}(h:VL l=true):∀i ∈l,qp i.1 i.2.1 i.2.2=true:=fun i hi=>Xy.mp h i hi
structure qeb(c:zO):Prop where
 sup0: -1≤c.sup
 sup1:c.sup≤7
 fl:c.fields.length≤8
 ft:∀t ∈c.fields,0≤t.1∧t.1≤5∧0≤t.2∧t.2≤7
 sl:c.slots.length≤4
 st:∀t ∈c.slots,0≤t∧t≤11
theorem quz{c:zO}(h:jZ c=true):qeb c:=by
 unfold jZ at h;simp only[Xv]at h;obtain⟨h1,h2,h3⟩:=h;have h1:=ZX.mp h1;have h2:=q13 h2;have h3:=q3k h3;exact⟨h1.1,h1.2,by omega,h2.2,by omega,h3.2⟩
structure q67(x:zf):Prop where
 al:x.args.length≤4
 at_:∀t ∈x.args,0≤t.1∧t.1≤5∧0≤t.2∧t.2≤7
 ll:x.locals.length≤8
 lt:∀t ∈x.locals,0≤t.1∧t.1≤5∧0≤t.2∧t.2≤7
 rt:0≤x.ret.1∧x.ret.1≤5∧0≤x.ret.2∧x.ret.2≤7
 cl:x.code.length≤64
 ct:∀i ∈x.code,qp i.1 i.2.1 i.2.2=true
 d0:0≤x.depth
 d1:x.depth≤8
 p0:0≤x.pot
 p1:x.pot≤4096
 pl:x.phi.length≤64
 pt:∀t ∈x.phi,0≤t∧t≤4096
theorem que{x:zf}(h:qY x=true):q67 x:=by
 unfold qY at h;simp only[Xv,Xr]at h;obtain⟨h1,h2,h3,h4,h5,h6,h7,h8⟩:=h;have h1:=q13 h1;have h2:=q13 h2;have h3:=q8f h3;have h5:=ZX.mp h5;have h6:=ZX.mp h6;have h7:=q3k h7;exact⟨by omega,h1.2,by omega,h2.2,h3,by omega,qdc h8,h5.1,h5.2,h6.1,h6.2,by omega,h7.2⟩
structure q68(m:za):Prop where
 cl:m.classes.length≤8
 ct:∀c ∈m.classes,qeb c
 sl:m.statics.length≤8
 st:∀t ∈m.statics,0≤t.1∧t.1≤5∧0≤t.2∧t.2≤7
 il:m.ints.length≤16
 ml:m.methods.length≤12
 mt:∀x ∈m.methods,q67 x
 el:m.entries.length≤12
 et:∀t ∈m.entries,0≤t∧t≤11
 k0:0≤m.stack
 k1:m.stack≤4096
 h0:0≤m.heap
 h1:m.heap≤4096
theorem q0n{m:za}(h:zT m=true):q68 m:=by
 unfold zT Zu at h;simp only[Xv,Xr]at h;obtain⟨⟨h1,h2,h3,h4,h5,h6,h7⟩,h8,h9⟩:=h;have h4:=q13 h4;have h5:=q3k h5;have h6:=ZX.mp h6;have h7:=ZX.mp h7;exact⟨by omega,fun c hc=>quz (Xy.mp h8 c hc),by omega,h4.2,by omega,by omega,fun x hx=>que (Xy.mp h9 x hx),by omega,h5.2,h6.1,h6.2,h7.1,h7.2⟩
set_option maxHeartbeats 800000 in
theorem qgw(l m:List (Int×Int))(A A':Option Addr)(cap cap' B:Nat)(w:World)(hB:B≤w.heap.size)(h:zd zh 2 w B A cap l)(h':zd zh 2 w B A' cap' m):
  Calls Tryz.prog 168 #[.slice A l.length cap,.slice A' m.length cap'] w fun e w'=>e= .returned (.bool (decide (l=m)))∧Below w.heap.size w w':=by
 have hlc:=h.le;have hcm:=h.cap;have hlc':=h'.le;have hcm':=h'.cap;have HL:=zH h;have HM:=zH h';have HB:=zH hB;clear h h' hB;obtain⟨b,hb⟩:∃b,decide (l=m)=b:=⟨_,rfl⟩
 rw[hb];have E:=zH hb.symm;clear hb;by_cases hn:l.length=m.length
 ·have HLN:=zH hn;have hlen:m.length=l.length:=hn.symm;rw[hlen];clear hn;go_enter Tryz.func168,Tryz.ntmps168;go_wp2
  go_loopw [13] (fun i wr=>∃k:Nat,k≤l.length∧i= .int .i64 k∧Hid (l.take k=m.take k)∧Hid (Below w.heap.size w wr)) (fun i _=>l.length - (intOf i).toNat)
  case atStart=>exact⟨0,by omega,rfl,zH (by simp),zH (zb _ _)⟩
  case round=>
   obtain⟨k,hk,rfl,HN,HX⟩:=hrel;by_cases hlt:k<l.length
   ·have hltm:k<m.length:=by omega
    obtain⟨ad,rfl,hab,q0,q1⟩:=(HL.out.below_to zh.keeps HX.out HB.out).row.at_ hlt;obtain⟨ad',rfl,hab',p0,p1⟩:=(HM.out.below_to zh.keeps HX.out HB.out).row.at_ hltm;have HNE:=zH (fun g=>q98 hlt hltm g);have HEQ:=zH (fun g=>qa9 hlt hltm HN.out g);generalize l[k]=t at*
    generalize m[k]=s at*
    obtain⟨x,y⟩:=t;obtain⟨x',y'⟩:=s;dsimp only at q0 q1 p0 p1;by_cases hx:x=x'∧y=y'
    ·obtain⟨rfl,rfl⟩:=hx;have E2:=zH (HEQ.out rfl);go_wp2_with fail
     go_quiet (fail)
     go_wp2
     go_roundw;case rel=>exact⟨k+1,by omega,by go_num,E2,zH (qZ HX.out _)⟩
     case measure=>simp[intOf];omega
    ·have E2:=zH (show b=false by rw[E.out];exact Xf (HNE.out (by simpa using hx)));have hxx:¬x=x'∨(x=x'∧¬y=y'):=by omega
     clear hx;rcases hxx with hxx|⟨rfl,hxx⟩
     all_goals
      go_wp2_with fail
      go_quiet (fail)
      go_wp2
      go_ret;exact⟨by rw[E2.out];rfl,(qZ HX.out _)⟩
   ·have E2:=zH (show b=true by rw[E.out];exact Xh (q75 HLN.out k HN.out (by omega)));go_wp2_with fail
    go_ret;exact⟨by rw[E2.out];rfl,HX.out⟩
 ·have E2:=zH (show b=false by rw[E.out];exact Xf (fun g=>hn (by rw[g])));have hn':((l.length:Int)==(m.length:Int))=false:=XK.mpr (by omega);go_enter Tryz.func168,Tryz.ntmps168;go_wp2
  go_ret;exact⟨by rw[E2.out];rfl,zb _ _⟩
def encC(c:zO):List Int:=jw (c.sup+1).toNat++(JG c.fields++Yp c.slots)
def encI1(i:Int×Int×Int):List Int:=putI i.1 i.2.1 i.2.2
def encL(n:Int):List Int:=jw (zig n).toNat
def encM(x:zf):List Int:=JG x.args++(JG x.locals++(encT x.ret++(jw x.code.length++(x.code.flatMap encI1++(jw x.depth.toNat++(jw x.pot.toNat++Yp x.phi))))))
def kD:List Int:=[112,108,105,109]
def OkL(n:Int):Prop:= -2147483648≤n∧n≤2147483647
def OkImg(m:za):Prop:=zT m=true∧∀n ∈m.ints,OkL n
def At3(w:World)(p:Addr)(x y z:Value):Prop:=w.cell? p=some x∧w.cell? (zc p 1)=some y∧w.cell? (zc p 2)=some z
theorem At3.keep{w w':World}{p:Addr}{x y z:Value}{B:Nat}(h:At3 w p x y z)(hb:Below B w w')(hp:p.block<B):At3 w' p x y z:=
 ⟨(hb.cell hp).trans h.1,(hb.cell (p:=zc p 1) hp).trans h.2.1,(hb.cell (p:=zc p 2) hp).trans h.2.2⟩
theorem zW.grown{w w':World}{N g:Nat}{vs:List Value}(H:zW w N vs)(hg:w.grownBy w' (some g))(hN:N<w.heap.size)(hne:¬g=N):zW w' N vs:=fun i v h=>by
 obtain⟨_,_,_,_,hb⟩:=hg;have e:=hb N hN (fun x=>hne (by have h:=x;simp at h;omega));exact(X7 (w:=w) (a:=⟨N,i,none⟩) e).trans (H i v h)
abbrev plimO:Obj:= .cells #[.int .u8 112,.int .u8 108,.int .u8 105,.int .u8 109] 5
abbrev QB:Obj:= .cells #[.int .u8 112,.int .u8 108,.int .u8 105,.int .u8 109] 5 (4,5)
theorem qnc(w:World)(N:Nat)(hN:w.heap.size=N):(convert 40 40 (.slice (some ⟨N,0,none⟩) 4 4)).run Tryz.prog (w.alloc plimO)= .ok (.slice (some ⟨N,0,none⟩) 4 4) (w.alloc QB):=by
 subst hN;exact Lib.run_convert_bytes_const (P:=Tryz.prog) w 40 5 _ 4 4 Tryz.underlying40 Tryz.underlying5
theorem qim(w:World):∀j u,(kD.map (Value.int .u8))[j]? =some u→(w.alloc QB).cell? ((⟨w.heap.size,0,none⟩:Addr).add j)=some u:=by
 intro j u hj;have e:(Addr.add ⟨w.heap.size,0,none⟩ j)=⟨w.heap.size,j,none⟩:=by
  unfold Addr.add;split
  ·rename_i h0;subst h0;rfl
  ·simp
 have hh:(w.alloc QB).heap[w.heap.size]? =some QB:=XO w _;rw[e];simp only[World.cell?,hh]
 match j,hj with
 |0,hj=>simp[kD]at hj;subst hj;rfl
 |1,hj=>simp[kD]at hj;subst hj;rfl
 |2,hj=>simp[kD]at hj;subst hj;rfl
 |3,hj=>simp[kD]at hj;subst hj;rfl
 |j+4,hj=>simp[kD]at hj
def Bts(l:List Int):Prop:=l.length≤1048576∧∀b ∈l,0≤b∧b≤255
def jf{α:Type}(enc:α→List Int)(ok:α→Prop)(rest:List Int)(bad:Bool)(x:α)(rest':List Int)(bad':Bool):Prop:=
 Bts rest'∧(bad'=false→bad=false∧rest=enc x++rest')∧∀y r,bad=false→ok y→rest=enc y++r→bad'=false∧x=y∧rest'=r
section
variable{α β:Type}{e1:α→List Int}{o1:α→Prop}{e2:β→List Int}{o2:β→Prop}{rest r1 r2:List Int}{bad b1 b2:Bool}{x:α}{y:β}
theorem jf.seq(h1:jf e1 o1 rest bad x r1 b1)(h2:jf e2 o2 r1 b1 y r2 b2):jf (fun p:α×β=>e1 p.1++e2 p.2) (fun p=>o1 p.1∧o2 p.2) rest bad (x,y) r2 b2:=by
 refine⟨h2.1,fun hb=> ?_,fun z r hb ho he=> ?_⟩
 ·obtain⟨g1,g2⟩:=h2.2.1 hb;obtain⟨g3,g4⟩:=h1.2.1 g1;exact⟨g3,by rw[g4,g2,X8]⟩
 ·obtain⟨g1,g2,g3⟩:=h1.2.2 z.1 (e2 z.2++r) hb ho.1 (by rw[he,X8]);obtain⟨g4,g5,g6⟩:=h2.2.2 z.2 r g1 ho.2 g3;exact⟨g4,by rw[g2,g5],g6⟩
theorem jf.map(f:α→β)(h:jf e1 o1 rest bad x r1 b1)(he:e2 (f x)=e1 x)(ho:∀z,o2 z→∃y,o1 y∧f y=z∧e2 z=e1 y):jf e2 o2 rest bad (f x) r1 b1:=by
 refine⟨h.1,fun hb=> ?_,fun z r hb hz hr=> ?_⟩
 ·obtain⟨g1,g2⟩:=h.2.1 hb;exact⟨g1,by rw[g2,he]⟩
 ·obtain⟨y,h1,h2,h3⟩:=ho z hz;obtain⟨g1,g2,g3⟩:=h.2.2 y r hb h1 (by rw[hr,h3]);exact⟨g1,by rw[g2,h2],g3⟩
end
abbrev q32(l:List (Int×Int)):List Int:=jw l.length++l.flatMap encT
abbrev q6l(l:List Int):List Int:=jw l.length++l.flatMap YT
theorem jf.cls{rest r0 r1 r2:List Int}{bad b0 b1 b2:Bool}{n:Int}{f:List (Int×Int)}{s:List Int}(hn:0≤n)(h0:jf YT (fun n=>0≤n∧n≤8) rest bad n r0 b0)
  (h1:jf q32 (fun l=>(l.length:Int)≤8∧∀t ∈l,qi t=true) r0 b0 f r1 b1) (h2:jf q6l (fun l=>(l.length:Int)≤4∧∀t ∈l,0≤t∧t≤11) r1 b1 s r2 b2):
  jf encC (fun c=>jZ c=true) rest bad ⟨n - 1,f,s⟩ r2 b2:=
 (h0.seq (h1.seq h2)).map (fun p=>zO.mk (p.1 - 1) p.2.1 p.2.2) (by unfold encC JG Yp;dsimp only;rw[show n - 1+1=n by omega]) fun z hz=>by
  obtain⟨sup,f,s⟩:=z;unfold jZ at hz;simp only[Xv]at hz;obtain⟨z1,z2,z3⟩:=hz;have z1:=ZX.mp z1;have z2:(f.length:Int)≤8∧∀t ∈f,qi t=true:=XN z2;have z3:(s.length:Int)≤4∧∀x ∈s,0≤x∧x≤11:=XN z3;exact⟨(sup+1,f,s),⟨⟨by dsimp only;omega,by dsimp only;omega⟩,z2,z3⟩,by simp,rfl⟩
abbrev encCl(l:List (Int×Int×Int)):List Int:=jw l.length++l.flatMap encI1
theorem jf.mth{r0 r1 r2 r3 r4 r5 r6 r7:List Int}{b0 b1 b2 b3 b4 b5 b6 b7:Bool}{a l:List (Int×Int)}{t:Int×Int}{c:List (Int×Int×Int)}{d p:Int}{f:List Int}
  (h0:jf q32 (fun l=>(l.length:Int)≤4∧∀t ∈l,qi t=true) r0 b0 a r1 b1) (h1:jf q32 (fun l=>(l.length:Int)≤8∧∀t ∈l,qi t=true) r1 b1 l r2 b2)
  (h2:jf encT (fun t=>qi t=true) r2 b2 t r3 b3) (h3:jf encCl (fun l=>(l.length:Int)≤64∧∀i ∈l,qp i.1 i.2.1 i.2.2=true) r3 b3 c r4 b4)
  (h4:jf YT (fun n=>0≤n∧n≤8) r4 b4 d r5 b5) (h5:jf YT (fun n=>0≤n∧n≤4096) r5 b5 p r6 b6) (h6:jf q6l (fun l=>(l.length:Int)≤64∧∀t ∈l,0≤t∧t≤4096) r6 b6 f r7 b7):
  jf encM (fun x=>qY x=true) r0 b0 ⟨a,l,t,c,d,p,f⟩ r7 b7:=
 (h0.seq (h1.seq (h2.seq (h3.seq (h4.seq (h5.seq h6)))))).map (fun q=>zf.mk q.1 q.2.1 q.2.2.1 q.2.2.2.1 q.2.2.2.2.1 q.2.2.2.2.2.1 q.2.2.2.2.2.2) (by unfold encM JG Yp;dsimp only;simp only[X8]) fun z hz=>by
  obtain⟨a,l,t,c,d,p,f⟩:=z;unfold qY at hz;simp only[Xv,Xr]at hz;obtain⟨z1,z2,z3,z4,z5,z6,z7,z8⟩:=hz;exact⟨(a,l,t,c,d,p,f),⟨XN z1,XN z2,z3,⟨z4,qdc z8⟩,ZX.mp z5,ZX.mp z6,XN z7⟩,rfl,by unfold encM JG Yp;dsimp only;simp only[X8]⟩
def q63(m:za):List Int:=jw m.classes.length++(m.classes.flatMap encC++(JG m.statics++(jw m.ints.length++(m.ints.flatMap encL++(jw m.methods.length++(m.methods.flatMap encM++(Yp m.entries++(jw m.stack.toNat++jw m.heap.toNat))))))))
theorem jf.img{r0 r1 r2 r3 r4 r5 r6 r7:List Int}{b0 b1 b2 b3 b4 b5 b6 b7:Bool}{cl:List zO}{st:List (Int×Int)}{it:List Int}{me:List zf}{en:List Int}{k h:Int}
  (h0:jf (fun l:List zO=>jw l.length++l.flatMap encC) (fun l=>(l.length:Int)≤8∧∀c ∈l,jZ c=true) r0 b0 cl r1 b1) (h1:jf q32 (fun l=>(l.length:Int)≤8∧∀t ∈l,qi t=true) r1 b1 st r2 b2)
  (h2:jf (fun l:List Int=>jw l.length++l.flatMap encL) (fun l=>(l.length:Int)≤16∧∀n ∈l,OkL n) r2 b2 it r3 b3) (h3:jf (fun l:List zf=>jw l.length++l.flatMap encM) (fun l=>(l.length:Int)≤12∧∀x ∈l,qY x=true) r3 b3 me r4 b4)
  (h4:jf q6l (fun l=>(l.length:Int)≤12∧∀t ∈l,0≤t∧t≤11) r4 b4 en r5 b5) (h5:jf YT (fun n=>0≤n∧n≤4096) r5 b5 k r6 b6) (h6:jf YT (fun n=>0≤n∧n≤4096) r6 b6 h r7 b7):
  jf q63 OkImg r0 b0 ⟨cl,st,it,me,en,k,h⟩ r7 b7:=
 (h0.seq (h1.seq (h2.seq (h3.seq (h4.seq (h5.seq h6)))))).map (fun q=>za.mk q.1 q.2.1 q.2.2.1 q.2.2.2.1 q.2.2.2.2.1 q.2.2.2.2.2.1 q.2.2.2.2.2.2) (by unfold q63 JG Yp;dsimp only;simp only[X8]) fun z hz=>by
  obtain⟨cl,st,it,me,en,k,h⟩:=z;obtain⟨hf,hi⟩:=hz;unfold zT Zu at hf;simp only[Xv,Xr]at hf;obtain⟨⟨z1,z2,z3,z4,z5,z6,z7⟩,z8,z9⟩:=hf;exact⟨(cl,st,it,me,en,k,h),⟨⟨z1,fun c hc=>Xy.mp z8 c hc⟩,XN z4,⟨z2,hi⟩,⟨z3,fun c hc=>Xy.mp z9 c hc⟩,XN z5,ZX.mp z6,ZX.mp z7⟩,rfl,by unfold q63 JG Yp;dsimp only;simp only[X8]⟩
theorem Rd.far{w w':World}{N:Nat}{rest:List Int}{bad:Bool}(h:Rd w N rest bad)(hb:Below w.heap.size w w'):Rd w' N rest bad:=h.keep hb
def qa2(w:World)(e:Ending)(w':World):Prop:=∃b:Bool,e= .returned (.bool b)∧Below w.heap.size w w'
set_option maxHeartbeats 1600000 in
theorem qg4(m:za)(h:zg)(B:Nat)(w:World)(hB:B≤w.heap.size)(H:zi w B h m):
  Calls Tryz.prog 8 #[zk h m] w (qa2 w):=by
 have HW:=zH ((zb w.heap.size w).alloc (zn _) (zo h m));have HIM:=zH (H.below_to HW.out hB);have HBX:=zH (zX w h m);have HZ:Hid (w.heap.size<(w.alloc (zo h m)).heap.size):=zH (by simp);have HB:Hid (B≤(w.alloc (zo h m)).heap.size):=zH (Xg hB HW.out.size);clear hB H;go_enter Tryz.func8,Tryz.ntmps8;go_upto_region 1 with fail
 generalize w.alloc (zo h m)=w1 at*
 obtain⟨q0,q1,q2,q3,q4,q5,q6⟩:=HBX.out;go_wp2_with fail
 ·go_ret;exact⟨_,rfl,HW.out⟩
 ·go_loopw [3] (fun i wr=>∃k:Nat,k≤m.methods.length∧i= .int .i64 k∧Hid (Below w1.heap.size w1 wr)) (fun i _=>m.methods.length - (intOf i).toNat)
  case atStart=>exact⟨0,by omega,rfl,zH (zb _ _)⟩
  case round=>
   clear q0 q1 q2 q3 q4 q5 q6;obtain⟨k,hk,rfl,HX⟩:=hrel;obtain⟨q0,q1,q2,q3,q4,q5,q6⟩:=HBX.out.keep HX.out HZ.out;have l3:=HIM.out.methods.le;have l3c:=HIM.out.methods.cap;by_cases hlt:k<m.methods.length
   ·obtain⟨ad,e0,hab,hc⟩:=(HIM.out.methods.below_to vN.keeps HX.out HB.out).row.at_ hlt;rw[e0]at q3;clear e0;generalize m.methods[k]=x at*
    obtain⟨⟨A0,k0,s0,hs0⟩,⟨A1,k1,s1,hs1⟩,s2,s3,⟨A4,k4,s4,hs4⟩,s5,s6,⟨A7,k7,s7,hs7⟩⟩:=hc;clear hs0 hs1 hs4 hs7;go_wp2_with fail
    ·go_ret;exact⟨_,rfl,HW.out.trans ((HX.out.alloc HX.out.size _).mono (Xk HZ.out))⟩
    ·go_roundw;case rel=>exact⟨k+1,by omega,by go_num,zH (HX.out.alloc HX.out.size _)⟩
     case measure=>simp[intOf];omega
   ·go_wp2_with fail
    go_ret;exact⟨_,rfl,HW.out.trans (HX.out.mono (Xk HZ.out))⟩
theorem q8o{m:za}{h:zg}{w0 w:World}(HI:Hid (zi w0 w0.heap.size h m))(HX:Hid (Below w0.heap.size w0 w)):Calls Tryz.prog 8 #[zk h m] w (qa2 w):=
 qg4 m h w.heap.size w (zn _) (HI.out.now HX.out)
end Go.Proofs.YtcmiljnbmgkdnaaGreat
