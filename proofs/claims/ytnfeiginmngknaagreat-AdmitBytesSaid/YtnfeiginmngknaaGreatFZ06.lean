import Derived.Lib.SlBytesConst
import Derived.Test.YtnfeiginmngknaaGreatFZ04
namespace Go.Proofs.YtnfeiginmngknaaGreat
set_option maxRecDepth 100000
set_option linter.unusedVariables false
set_option linter.unusedSimpArgs false
open Go.ChangeShapes Go.WideShapes Go.ChangeAt Go.RowKit
def Qa(c:zW):Bool:=qF c.sup (-1) 7&& (JR c.fields 8&& Ju c.slots 4 11)
def wT(l:List (Int×Int×Int)):Bool:=l.all fun i=>qs i.1 i.2.1 i.2.2
def vi(x:zl):Bool:=JR x.args 4&& (JR x.locals 8&& (qG x.ret&& (decide ((x.code.length:Int)<=64)&& (qF x.depth 0 8&& (qF x.pot 0 4096&& (Ju x.phi 64 4096&& wT x.code))))))
def VH(m:za):Bool:=decide ((m.classes.length:Int)<=8)&& (decide ((m.ints.length:Int)<=16)&& (decide ((m.methods.length:Int)<=12)&& (JR m.statics 8&& (Ju m.entries 12 11&& (qF m.stack 0 4096&& qF m.heap 0 4096)))))
def zV(m:za):Bool:=VH m&& (m.classes.all Qa&& m.methods.all vi)
theorem lW{l:List (Int×Int)}{n:Int}{A:Option Addr}{cap B:Nat}{w0 w:World}{r:Bool}(HL:Hid (zd zf 2 w0 B A cap l))(HB:Hid (B<=w0.heap.size))(HX:Hid (Below w0.heap.size w0 w))(HR:Hid (JR l n=r)):
  Calls Tryz.prog 16 #[.slice A l.length cap,.int .i64 n] w fun e w'=>e= .returned (.bool r)/\Below w.heap.size w w':=by
 have h:=q6i l n A cap B w (Xe HB.out HX.out.size) (HL.out.below_to zf.keeps HX.out HB.out);rw[HR.out]at h;exact h
theorem wB{l:List Int}{n most:Int}{A:Option Addr}{cap B:Nat}{w0 w:World}{r:Bool}(HL:Hid (zd zu 1 w0 B A cap l))(HB:Hid (B<=w0.heap.size))(HX:Hid (Below w0.heap.size w0 w))(HR:Hid (Ju l n most=r)):
  Calls Tryz.prog 17 #[.slice A l.length cap,.int .i64 n,.int .i64 most] w fun e w'=>e= .returned (.bool r)/\w=w':=by
 have h:=qbt l n most A cap B w (Xe HB.out HX.out.size) (HL.out.below_to zu.keeps HX.out HB.out);rw[HR.out]at h;exact h
theorem Y5{t:Int×Int}{w:World}{r:Bool}(HR:Hid (qG t=r)):Calls Tryz.prog 19 #[zF t.1 t.2] w fun e w'=>e= .returned (.bool r)/\Below w.heap.size w w':=by
 have h:=K4 t w;rw[HR.out]at h;exact h
theorem oW{P:Prop}(h:P:=by
 go_wp2_with(first|((first|(go_at_call 16;(with_reducible refine(lW bf HB2 HX2 D1).mono ?_))|(go_at_call 16;(with_reducible refine(lW Zu HB2 HX2 D2).mono ?_))|(go_at_call 19;(with_reducible refine(Y5 D3).mono ?_)));rintro e w' ⟨rfl,hb⟩;have qK:=zi qK hb;have HX2:=zi HX2 hb;obtain⟨r0,r1,r2,r3,r4,r5,r6,r7⟩:=qp (QX.out.keep HX2.out HZ2.out);clear hb)|((first|(go_at_call 18;(with_reducible refine(Jd D5).mono ?_))|(go_at_call 18;(with_reducible refine(Jd D6).mono ?_))|(go_at_call 17;(with_reducible refine(wB lc HB2 HX2 D7).mono ?_)));rintro e w' ⟨rfl,rfl⟩))
 go_ret;exact⟨by rw[E2.out];rfl,HW.out.trans (qK.out.mono BH.out)⟩):P:=h
theorem oV{P:Prop}(h:P:=by
 go_wp2_with(first|(go_at_call 16;(with_reducible refine(lW qZ HB HX H4).mono ?_);rintro e w' ⟨rfl,hb⟩;have HX:=zi HX hb;obtain⟨q0,q1,q2,q3,q4,q5,q6⟩:=HBX.out.keep HX.out HZ.out;clear hb)|((first|(go_at_call 17;(with_reducible refine(wB Qi HB HX H5).mono ?_))|(go_at_call 18;(with_reducible refine(Jd H6).mono ?_))|(go_at_call 18;(with_reducible refine(Jd H7).mono ?_)));rintro e w' ⟨rfl,rfl⟩))
 go_ret;exact⟨by rw[E2.out];rfl,HW.out.trans (HX.out.mono BH.out)⟩):P:=h
theorem Ip{P:Prop}(h:P:=by
 have E2:=zH (show zV m=false by unfold zV;rw[aZ.out (by unfold Qa;simp[D1.out,D2.out,D3.out])];simp);go_wp2_with(first|(go_at_call 18;(with_reducible refine(Jd D1).mono ?_);rintro e w' ⟨rfl,rfl⟩)|(go_at_call 16;(with_reducible refine(lW VY HB2 HX2 D2).mono ?_);rintro e w' ⟨rfl,hb⟩;have qK:=zi qK hb;have HX2:=zi HX2 hb;obtain⟨r0,r1,r2⟩:=qv (QX.out.keep HX2.out HZ2.out);clear hb)|(go_at_call 17;(with_reducible refine(wB az HB2 HX2 D3).mono ?_);rintro e w' ⟨rfl,rfl⟩))
 go_ret;exact⟨by rw[E2.out];rfl,HW.out.trans (qK.out.mono BH.out)⟩):P:=h
set_option maxHeartbeats 6400000 in
theorem y8(m:za)(h:zh)(B:Nat)(w:World)(hB:B<=w.heap.size)(H:zr w B h m):
  Calls Tryz.prog 6 #[zv h m] w fun e w'=>e= .returned (.bool (zV m))/\Below w.heap.size w w':=by
 have HW:=zH (zk (w:=w) (o:=(ze h m)));have zO:=zH (H.below_to HW.out hB);have HBX:=zH (qd w h m);have HB:Hid (B<=(w.alloc (ze h m)).heap.size):=zH (Xe hB HW.out.size);have HZ:Hid (w.heap.size<(w.alloc (ze h m)).heap.size):=zH (by simp);have BH:Hid (w.heap.size<=(w.alloc (ze h m)).heap.size):=zH (by simp);have HX:Hid (Below (w.alloc (ze h m)).heap.size (w.alloc (ze h m)) (w.alloc (ze h m))):=zH (zb _ _);have qZ:=zH zO.out.statics;have Qi:=zH zO.out.entries;have bounds:m.classes.length<=9223372036854775807/\m.ints.length<=9223372036854775807/\m.methods.length<=9223372036854775807:=by
  have:=zO.out.classes.le;have:=zO.out.classes.cap;have:=zO.out.ints.le;have:=zO.out.ints.cap;have:=zO.out.methods.le;have:=zO.out.methods.cap;omega
 obtain⟨bb0,bb1,bb2⟩:=bounds;obtain⟨b4,h4⟩:∃b,JR m.statics 8=b:=⟨_,rfl⟩
 have H4:=zH h4;obtain⟨b5,h5⟩:∃b,Ju m.entries 12 11=b:=⟨_,rfl⟩
 have H5:=zH h5;obtain⟨b6,h6⟩:∃b,qF m.stack 0 4096=b:=⟨_,rfl⟩
 have H6:=zH h6;obtain⟨b7,h7⟩:∃b,qF m.heap 0 4096=b:=⟨_,rfl⟩
 have H7:=zH h7;clear hB H h4 h5 h6 h7;go_enter Tryz.func6,Tryz.ntmps6;by_cases c0:(8:Int)<m.classes.length
 ·have E2:=zH (show zV m=false by unfold zV VH;grind);exact oV
 by_cases c1:(16:Int)<m.ints.length
 ·have E2:=zH (show zV m=false by unfold zV VH;grind);exact oV
 by_cases c2:(12:Int)<m.methods.length
 ·have E2:=zH (show zV m=false by unfold zV VH;grind);exact oV
 cases b4
 ·have E2:=zH (show zV m=false by unfold zV VH;simp[H4.out,H5.out,H6.out,H7.out]);exact oV
 ·cases b5
  ·have E2:=zH (show zV m=false by unfold zV VH;simp[H4.out,H5.out,H6.out,H7.out]);exact oV
  ·cases b6
   ·have E2:=zH (show zV m=false by unfold zV VH;simp[H4.out,H5.out,H6.out,H7.out]);exact oV
   ·cases b7
    ·have E2:=zH (show zV m=false by unfold zV VH;simp[H4.out,H5.out,H6.out,H7.out]);exact oV
    ·have HHD:=zH (show VH m=true by unfold VH;rw[Xi (by omega),Xi (p:=(m.ints.length:Int)<=16) (by omega),Xi (p:=(m.methods.length:Int)<=12) (by omega),H4.out,H5.out,H6.out,H7.out];rfl);go_wp2_with(first|(go_at_call 16;(with_reducible refine(lW qZ HB HX H4).mono ?_);rintro e w' ⟨rfl,hb⟩;have HX:=zi HX hb;obtain⟨q0,q1,q2,q3,q4,q5,q6⟩:=HBX.out.keep HX.out HZ.out;clear hb)|((first|(go_at_call 17;(with_reducible refine(wB Qi HB HX H5).mono ?_))|(go_at_call 18;(with_reducible refine(Jd H6).mono ?_))|(go_at_call 18;(with_reducible refine(Jd H7).mono ?_)));rintro e w' ⟨rfl,rfl⟩))
     go_loopw [3] (fun i wr=>∃k:Nat,k<=m.classes.length/\i= .int .i64 k/\Hid (∀c ∈m.classes.take k,Qa c=true)/\Hid (Below (w.alloc (ze h m)).heap.size (w.alloc (ze h m)) wr)) (fun i _=>m.classes.length - (intOf i).toNat)
     case atStart=>exact⟨0,by omega,rfl,zH (by simp),HX⟩
     case round=>
      clear HX q0 q1 q2 q3 q4 q5 q6;obtain⟨k,hk,rfl,HN,HX⟩:=hrel;obtain⟨q0,q1,q2,q3,q4,q5,q6⟩:=HBX.out.keep HX.out HZ.out;have bc1:=zO.out.classes.le;have bc2:=zO.out.classes.cap;by_cases hlt:k<m.classes.length
      ·obtain⟨ad,e0,hab,hc⟩:=(zO.out.classes.below_to vw.keeps HX.out HB.out).row.at_ hlt;rw[e0]at q0;clear e0;have aZ:=zH (fun g:Qa m.classes[k]=false=>JP hlt g);have vy:=zH (fun g:Qa m.classes[k]=true=>Jk hlt HN.out g);generalize m.classes[k]=c at*
       obtain⟨s0,⟨A1,k1,s1,hs1⟩,⟨A2,k2,s2,hs2⟩⟩:=hc;obtain⟨d1,hd1⟩:∃b,qF c.sup (-1) 7=b:=⟨_,rfl⟩
       have D1:=zH hd1;obtain⟨d2,hd2⟩:∃b,JR c.fields 8=b:=⟨_,rfl⟩
       have D2:=zH hd2;obtain⟨d3,hd3⟩:∃b,Ju c.slots 4 11=b:=⟨_,rfl⟩
       have D3:=zH hd3;have hA:Below wr.heap.size wr (wr.alloc (.cells #[.int .i64 c.sup,.slice A1 c.fields.length k1,.slice A2 c.slots.length k2] 60)):=zk;have hBr:B<=wr.heap.size:=Xe HB.out HX.out.size;have qK:=zi HX hA;have VY:=zH (hs1.below_to zf.keeps hA hBr);have az:=zH (hs2.below_to zu.keeps hA hBr);have HB2:=zH (Xe hBr hA.size);have QX:=zH (qr wr [.int .i64 c.sup,.slice A1 c.fields.length k1,.slice A2 c.slots.length k2] 60);have HZ2:Hid (wr.heap.size<(wr.alloc (.cells #[.int .i64 c.sup,.slice A1 c.fields.length k1,.slice A2 c.slots.length k2] 60)).heap.size):=zH (by simp);clear hd1 hd2 hd3 hA hBr hs1 hs2 hab;go_upto_region 7 with fail
       generalize wr.alloc (.cells #[.int .i64 c.sup,.slice A1 c.fields.length k1,.slice A2 c.slots.length k2] 60)=w2 at*
       have HX2:=qP w2;obtain⟨r0,r1,r2⟩:=qv QX.out;cases d1
       ·exact Ip
       ·cases d2
        ·exact Ip
        ·cases d3
         ·exact Ip
         ·have vQ:=zH (vy.out (by unfold Qa;rw[D1.out,D2.out,D3.out];rfl));go_wp2_with(first|(go_at_call 18;(with_reducible refine(Jd D1).mono ?_);rintro e w' ⟨rfl,rfl⟩)|(go_at_call 16;(with_reducible refine(lW VY HB2 HX2 D2).mono ?_);rintro e w' ⟨rfl,hb⟩;have qK:=zi qK hb;have HX2:=zi HX2 hb;obtain⟨r0,r1,r2⟩:=qv (QX.out.keep HX2.out HZ2.out);clear hb)|(go_at_call 17;(with_reducible refine(wB az HB2 HX2 D3).mono ?_);rintro e w' ⟨rfl,rfl⟩))
          go_roundw;case rel=>exact⟨k+1,by omega,by go_num,vQ,qK⟩
          case measure=>simp[intOf];omega
      ·have aP:=zH (JQ HN.out (show m.classes.length<=k by omega));clear HN;go_wp2_with fail
       go_loopw [5] (fun i wr=>∃k:Nat,k<=m.methods.length/\i= .int .i64 k/\Hid (∀x ∈m.methods.take k,vi x=true)/\Hid (Below (w.alloc (ze h m)).heap.size (w.alloc (ze h m)) wr)) (fun i _=>m.methods.length - (intOf i).toNat)
       case atStart=>exact⟨0,by omega,rfl,zH (by simp),HX⟩
       case round=>
        clear HX q0 q1 q2 q3 q4 q5 q6 hlt hk;obtain⟨k,hk,rfl,HN,HX⟩:=hrel;obtain⟨q0,q1,q2,q3,q4,q5,q6⟩:=HBX.out.keep HX.out HZ.out;have bc3:=zO.out.methods.le;have bc4:=zO.out.methods.cap;by_cases hlt:k<m.methods.length
        ·obtain⟨ad,e0,hab,hc⟩:=(zO.out.methods.below_to kd.keeps HX.out HB.out).row.at_ hlt;rw[e0]at q3;clear e0;have aZ:=zH (fun g:vi m.methods[k]=false=>JP hlt g);have vy:=zH (fun g:vi m.methods[k]=true=>Jk hlt HN.out g);generalize m.methods[k]=x at*
         obtain⟨⟨A0,k0,s0,hs0⟩,⟨A1,k1,s1,hs1⟩,s2,s3,⟨A4,k4,s4,hs4⟩,s5,s6,⟨A7,k7,s7,hs7⟩⟩:=hc;obtain⟨d1,hd1⟩:∃b,JR x.args 4=b:=⟨_,rfl⟩
         have D1:=zH hd1;obtain⟨d2,hd2⟩:∃b,JR x.locals 8=b:=⟨_,rfl⟩
         have D2:=zH hd2;obtain⟨d3,hd3⟩:∃b,qG x.ret=b:=⟨_,rfl⟩
         have D3:=zH hd3;obtain⟨d5,hd5⟩:∃b,qF x.depth 0 8=b:=⟨_,rfl⟩
         have D5:=zH hd5;obtain⟨d6,hd6⟩:∃b,qF x.pot 0 4096=b:=⟨_,rfl⟩
         have D6:=zH hd6;obtain⟨d7,hd7⟩:∃b,Ju x.phi 64 4096=b:=⟨_,rfl⟩
         have D7:=zH hd7;have hA:Below wr.heap.size wr (wr.alloc (.cells #[.slice A0 x.args.length k0,.slice A1 x.locals.length k1,.int .i64 x.ret.1,.int .i64 x.ret.2,.slice A4 x.code.length k4,.int .i64 x.depth,.int .i64 x.pot,.slice A7 x.phi.length k7] 48)):=zk;have hBr:B<=wr.heap.size:=Xe HB.out HX.out.size;have qK:=zi HX hA;have bf:=zH (hs0.below_to zf.keeps hA hBr);have Zu:=zH (hs1.below_to zf.keeps hA hBr);have hs4:=hs4.below_to ju.keeps hA hBr;have lc:=zH (hs7.below_to zu.keeps hA hBr);have HB2:=zH (Xe hBr hA.size);have QX:=zH (qr wr [.slice A0 x.args.length k0,.slice A1 x.locals.length k1,.int .i64 x.ret.1,.int .i64 x.ret.2,.slice A4 x.code.length k4,.int .i64 x.depth,.int .i64 x.pot,.slice A7 x.phi.length k7] 48);have HZ2:Hid (wr.heap.size<(wr.alloc (.cells #[.slice A0 x.args.length k0,.slice A1 x.locals.length k1,.int .i64 x.ret.1,.int .i64 x.ret.2,.slice A4 x.code.length k4,.int .i64 x.depth,.int .i64 x.pot,.slice A7 x.phi.length k7] 48)).heap.size):=zH (by simp);clear hd1 hd2 hd3 hd5 hd6 hd7 hA hBr hs0 hs1 hs7 hab;go_upto_region 13 with fail
         generalize wr.alloc (.cells #[.slice A0 x.args.length k0,.slice A1 x.locals.length k1,.int .i64 x.ret.1,.int .i64 x.ret.2,.slice A4 x.code.length k4,.int .i64 x.depth,.int .i64 x.pot,.slice A7 x.phi.length k7] 48)=w2 at*
         have HX2:=qP w2;have HWX:=qK;obtain⟨r0,r1,r2,r3,r4,r5,r6,r7⟩:=qp QX.out;cases d1
         ·have E2:=zH (show zV m=false by unfold zV;rw[aZ.out (by unfold vi;rw[D1.out];rfl)];simp);exact oW
         ·cases d2
          ·have E2:=zH (show zV m=false by unfold zV;rw[aZ.out (by unfold vi;rw[D1.out,D2.out];rfl)];simp);exact oW
          ·cases d3
           ·have E2:=zH (show zV m=false by unfold zV;rw[aZ.out (by unfold vi;rw[D1.out,D2.out,D3.out];rfl)];simp);exact oW
           ·by_cases c4:(64:Int)<x.code.length
            ·have E2:=zH (show zV m=false by unfold zV;rw[aZ.out (by unfold vi;rw[D1.out,D2.out,D3.out,Xf (p:=(x.code.length:Int)<=64) (by omega)];rfl)];simp);exact oW
            cases d5
            ·have E2:=zH (show zV m=false by unfold zV;rw[aZ.out (by unfold vi;rw[D1.out,D2.out,D3.out,Xi (p:=(x.code.length:Int)<=64) (by omega),D5.out];rfl)];simp);exact oW
            ·cases d6
             ·have E2:=zH (show zV m=false by unfold zV;rw[aZ.out (by unfold vi;rw[D1.out,D2.out,D3.out,Xi (p:=(x.code.length:Int)<=64) (by omega),D5.out,D6.out];rfl)];simp);exact oW
             ·cases d7
              ·have E2:=zH (show zV m=false by unfold zV;rw[aZ.out (by unfold vi;rw[D1.out,D2.out,D3.out,Xi (p:=(x.code.length:Int)<=64) (by omega),D5.out,D6.out,D7.out];rfl)];simp);exact oW
              ·have lm:=zH hs4;go_wp2_with(first|((first|(go_at_call 16;(with_reducible refine(lW bf HB2 HX2 D1).mono ?_))|(go_at_call 16;(with_reducible refine(lW Zu HB2 HX2 D2).mono ?_))|(go_at_call 19;(with_reducible refine(Y5 D3).mono ?_)));rintro e w' ⟨rfl,hb⟩;have qK:=zi qK hb;have HX2:=zi HX2 hb;obtain⟨r0,r1,r2,r3,r4,r5,r6,r7⟩:=qp (QX.out.keep HX2.out HZ2.out);clear hb)|((first|(go_at_call 18;(with_reducible refine(Jd D5).mono ?_))|(go_at_call 18;(with_reducible refine(Jd D6).mono ?_))|(go_at_call 17;(with_reducible refine(wB lc HB2 HX2 D7).mono ?_)));rintro e w' ⟨rfl,rfl⟩))
               go_loopw [7] (fun i wr=>∃j:Nat,j<=x.code.length/\i= .int .i64 j/\Hid (∀i ∈x.code.take j,qs i.1 i.2.1 i.2.2=true)/\Hid (Below w2.heap.size w2 wr)) (fun i _=>x.code.length - (intOf i).toNat)
               case atStart=>exact⟨0,by omega,rfl,zH (by simp),HX2⟩
               case round=>
                clear HX2 qK r0 r1 r2 r3 r4 r5 r6 r7;obtain⟨j,hj,rfl,HM,zp⟩:=hrel;obtain⟨r0,r1,r2,r3,r4,r5,r6,r7⟩:=qp (QX.out.keep zp.out HZ2.out);have bk1:=lm.out.le;have bk2:=lm.out.cap;by_cases dM:j<x.code.length
                ·obtain⟨Ib,e4,xE,t0,t1,t2⟩:=(lm.out.below_to ju.keeps zp.out HB2.out).row.at_ dM;rw[e4]at r4;clear e4 xE;have YJ:=zH (fun g:(fun i:Int×Int×Int=>qs i.1 i.2.1 i.2.2) x.code[j]=false=>(JP dM g:wT x.code=false));have Cq:=zH (fun g:(fun i:Int×Int×Int=>qs i.1 i.2.1 i.2.2) x.code[j]=true=>Jk dM HM.out g);generalize x.code[j]=ins at*
                 obtain⟨op,a,b⟩:=ins;dsimp only at t0 t1 t2;obtain⟨g,hg⟩:=zj (qs op a b);have G:=zH hg;clear hg;cases g
                 ·have E2:=zH (show zV m=false by unfold zV;rw[aZ.out (by unfold vi;rw[show wT x.code=false from YJ.out G.out];simp)];simp);go_wp2_with(first|(go_at_call 20;(with_reducible refine(RF op a b _).mono ?_);rintro e w' ⟨he,hb⟩;rw[G.out]at he;subst he;have zp:=zi zp hb;clear hb))
                  go_ret;exact⟨by rw[E2.out];rfl,HW.out.trans ((zD HWX zp).mono BH.out)⟩
                 ·have vQ:=zH (Cq.out G.out);go_wp2_with(first|(go_at_call 20;(with_reducible refine(RF op a b _).mono ?_);rintro e w' ⟨he,hb⟩;rw[G.out]at he;subst he;have zp:=zi zp hb;clear hb))
                  go_roundw;case rel=>exact⟨j+1,by omega,by go_num,vQ,zp⟩
                  case measure=>simp[intOf];omega
                ·have aP:=zH (show wT x.code=true from JQ HM.out (by omega));have vQ:=zH (vy.out (by unfold vi;rw[D1.out,D2.out,D3.out,D5.out,D6.out,D7.out,aP.out,Xi (p:=(x.code.length:Int)<=64) (by omega)];rfl));have qy:=zH (zD HWX zp);go_wp2_with fail
                 go_roundw;case rel=>exact⟨k+1,by omega,by go_num,vQ,qy⟩
                 case measure=>simp[intOf];omega
        ·have FH:=zH (JQ HN.out (show m.methods.length<=k by omega));have E2:=zH (show zV m=true by unfold zV;rw[HHD.out,aP.out,FH.out];rfl);go_wp2_with fail
         go_ret;exact⟨by rw[E2.out];rfl,HW.out.trans (HX.out.mono BH.out)⟩
theorem dZ{n a b:Int}:qF n a b=true↔a<=n/\n<=b:=by unfold qF;simp
theorem Ri{t:Int×Int}(h:qG t=true):0<=t.1/\t.1<=5/\0<=t.2/\t.2<=7:=by
 have:=XD h;omega
theorem Dg{l:List (Int×Int)}{n:Int}(h:JR l n=true):(l.length:Int)<=n/\∀t ∈l,0<=t.1/\t.1<=5/\0<=t.2/\t.2<=7:=by
 have:=XD h;exact⟨this.1,fun t ht=>Ri (this.2 t ht)⟩
theorem IG{l:List Int}{n most:Int}(h:Ju l n most=true):(l.length:Int)<=n/\∀t ∈l,0<=t/\t<=most:=XD h
theorem WN{l:List (Int×Int×Int)}(h:wT l=true):∀i ∈l,qs i.1 i.2.1 i.2.2=true:=fun i hi=>Xy.mp h i hi
structure LM(c:zW):Prop where
 sup0: -1<=c.sup
 sup1:c.sup<=7
 fl:c.fields.length<=8
 ft:∀t ∈c.fields,0<=t.1/\t.1<=5/\0<=t.2/\t.2<=7
 sl:c.slots.length<=4
 st:∀t ∈c.slots,0<=t/\t<=11
theorem qkb{c:zW}(h:Qa c=true):LM c:=by
 unfold Qa at h;simp only[Xt]at h;obtain⟨h1,h2,h3⟩:=h;have h1:=dZ.mp h1;have h2:=Dg h2;have h3:=IG h3;exact⟨h1.1,h1.2,by omega,h2.2,by omega,h3.2⟩
structure EX(x:zl):Prop where
 al:x.args.length<=4
 at_:∀t ∈x.args,0<=t.1/\t.1<=5/\0<=t.2/\t.2<=7
 ll:x.locals.length<=8
 lt:∀t ∈x.locals,0<=t.1/\t.1<=5/\0<=t.2/\t.2<=7
 rt:0<=x.ret.1/\x.ret.1<=5/\0<=x.ret.2/\x.ret.2<=7
 cl:x.code.length<=64
 ct:∀i ∈x.code,qs i.1 i.2.1 i.2.2=true
 d0:0<=x.depth
 d1:x.depth<=8
 p0:0<=x.pot
 p1:x.pot<=4096
 pl:x.phi.length<=64
 pt:∀t ∈x.phi,0<=t/\t<=4096
theorem qjp{x:zl}(h:vi x=true):EX x:=by
 unfold vi at h;simp only[Xt,Xw]at h;obtain⟨h1,h2,h3,h4,h5,h6,h7,h8⟩:=h;have h1:=Dg h1;have h2:=Dg h2;have h3:=Ri h3;have h5:=dZ.mp h5;have h6:=dZ.mp h6;have h7:=IG h7;exact⟨by omega,h1.2,by omega,h2.2,h3,by omega,WN h8,h5.1,h5.2,h6.1,h6.2,by omega,h7.2⟩
structure LJ(m:za):Prop where
 cl:m.classes.length<=8
 ct:∀c ∈m.classes,LM c
 sl:m.statics.length<=8
 st:∀t ∈m.statics,0<=t.1/\t.1<=5/\0<=t.2/\t.2<=7
 il:m.ints.length<=16
 ml:m.methods.length<=12
 mt:∀x ∈m.methods,EX x
 el:m.entries.length<=12
 et:∀t ∈m.entries,0<=t/\t<=11
 k0:0<=m.stack
 k1:m.stack<=4096
 h0:0<=m.heap
 h1:m.heap<=4096
theorem ru{m:za}(h:zV m=true):LJ m:=by
 unfold zV VH at h;simp only[Xt,Xw]at h;obtain⟨⟨h1,h2,h3,h4,h5,h6,h7⟩,h8,h9⟩:=h;have h4:=Dg h4;have h5:=IG h5;have h6:=dZ.mp h6;have h7:=dZ.mp h7;exact⟨by omega,fun c hc=>qkb (Xy.mp h8 c hc),by omega,h4.2,by omega,by omega,fun x hx=>qjp (Xy.mp h9 x hx),by omega,h5.2,h6.1,h6.2,h7.1,h7.2⟩
set_option maxHeartbeats 800000 in
theorem q5g(l m:List (Int×Int))(A A':Option Addr)(cap cap' B:Nat)(w:World)(hB:B<=w.heap.size)(h:zd zf 2 w B A cap l)(h':zd zf 2 w B A' cap' m):
  Calls Tryz.prog 164 #[.slice A l.length cap,.slice A' m.length cap'] w fun e w'=>e= .returned (.bool (decide (l=m)))/\Below w.heap.size w w':=by
 have hlc:=h.le;have hcm:=h.cap;have Oa:=h'.le;have hcm':=h'.cap;have HL:=zH h;have HM:=zH h';have HB:=zH hB;clear h h' hB;obtain⟨b,hb⟩:=zj (decide (l=m));rw[hb];have E:=zH hb.symm;clear hb;by_cases hn:l.length=m.length
 ·have Zj:=zH hn;have hlen:m.length=l.length:=hn.symm;rw[hlen];clear hn;go_enter Tryz.func164,Tryz.ntmps164;go_wp2
  go_loopw [13] (fun i wr=>∃k:Nat,k<=l.length/\i= .int .i64 k/\Hid (l.take k=m.take k)/\Hid (Below w.heap.size w wr)) (fun i _=>l.length - (intOf i).toNat)
  case atStart=>exact⟨0,by omega,rfl,zH (by simp),zH (zb _ _)⟩
  case round=>
   obtain⟨k,hk,rfl,HN,HX⟩:=hrel;by_cases hlt:k<l.length
   ·have vS:k<m.length:=by omega
    obtain⟨ad,rfl,hab,q0,q1⟩:=(HL.out.below_to zf.keeps HX.out HB.out).row.at_ hlt;obtain⟨ad',rfl,hab',p0,p1⟩:=(HM.out.below_to zf.keeps HX.out HB.out).row.at_ vS;have jc:=zH (fun g=>o9 hlt vS g);have kG:=zH (fun g=>pE hlt vS HN.out g);generalize l[k]=t at*
    generalize m[k]=s at*
    obtain⟨x,y⟩:=t;obtain⟨x',y'⟩:=s;dsimp only at q0 q1 p0 p1;by_cases hx:x=x'/\y=y'
    ·obtain⟨rfl,rfl⟩:=hx;have E2:=zH (kG.out rfl);go_wp2_with fail
     go_quiet (fail)
     go_wp2
     go_roundw;case rel=>exact⟨k+1,by omega,by go_num,E2,zH (jf HX.out _)⟩
     case measure=>simp[intOf];omega
    ·have E2:=zH (show b=false by rw[E.out];exact Xf (jc.out (by simpa using hx)));have qE:¬x=x'\/(x=x'/\¬y=y'):=by omega
     clear hx;rcases qE with qE|⟨rfl,qE⟩
     all_goals
      go_wp2_with fail
      go_quiet (fail)
      go_wp2
      go_ret;exact⟨by rw[E2.out];rfl,(jf HX.out _)⟩
   ·have E2:=zH (show b=true by rw[E.out];exact Xi (oU Zj.out k HN.out (by omega)));go_wp2_with fail
    go_ret;exact⟨by rw[E2.out];rfl,HX.out⟩
 ·have E2:=zH (show b=false by rw[E.out];exact Xf (fun g=>hn (by rw[g])));have hn':((l.length:Int)==(m.length:Int))=false:=XG.mpr (by omega);go_enter Tryz.func164,Tryz.ntmps164;go_wp2
  go_ret;exact⟨by rw[E2.out];rfl,zb _ _⟩
def kw(c:zW):List Int:=zG (c.sup+1).toNat++(ZU c.fields++Qr c.slots)
def kb(i:Int×Int×Int):List Int:=QR i.1 i.2.1 i.2.2
def ZZ(n:Int):List Int:=zG (zig n).toNat
def vN(x:zl):List Int:=ZU x.args++(ZU x.locals++(jA x.ret++(zG x.code.length++(x.code.flatMap kb++(zG x.depth.toNat++(zG x.pot.toNat++Qr x.phi))))))
def jm:List Int:=[112,108,105,109]
def Js(m:za):List Int:=jm++(zG m.classes.length++(m.classes.flatMap kw++(ZU m.statics++(zG m.ints.length++(m.ints.flatMap ZZ++(zG m.methods.length++(m.methods.flatMap vN++(Qr m.entries++(zG m.stack.toNat++zG m.heap.toNat)))))))))
theorem Aj{l:List (Int×Int)}(h:∀t ∈l,t.1<=9223372036854775807/\t.2<=9223372036854775807)(hl:l.length<=1000):(ZU l).length<=9+18*l.length:=by
 unfold ZU;rw[Xh];have:=Jj (f:=jA) (c:=18) l fun t ht=>AJ (h t ht).1 (h t ht).2;have:=vT (n:=l.length) (by omega);omega
theorem Eh{l:List Int}(h:∀t ∈l,t<=9223372036854775807)(hl:l.length<=1000):(Qr l).length<=9+9*l.length:=by
 unfold Qr;rw[Xh];have:=Jj (f:=vu) (c:=9) l fun t ht=>vT (by have:=h t ht;omega);have:=vT (n:=l.length) (by omega);omega
theorem KN{i:Int×Int×Int}(h:qs i.1 i.2.1 i.2.2=true):(kb i).length<=5:=(qga h).2
theorem Lf{c:zW}(h:LM c):(kw c).length<=250:=by
 have l1:=vT (n:=(c.sup+1).toNat) (by have:=h.sup1;omega);have l2:=Aj (l:=c.fields) (fun t ht=>by have:=h.ft t ht;omega) (by have:=h.fl;omega);have l3:=Eh (l:=c.slots) (fun t ht=>by have:=h.st t ht;omega) (by have:=h.sl;omega);have:=h.fl;have:=h.sl;unfold kw;simp only[Xh];omega
theorem Le{x:zl}(h:EX x):(vN x).length<=1500:=by
 have l1:=Aj (l:=x.args) (fun t ht=>by have:=h.at_ t ht;omega) (by have:=h.al;omega);have l2:=Aj (l:=x.locals) (fun t ht=>by have:=h.lt t ht;omega) (by have:=h.ll;omega);have l3:=AJ (t:=x.ret) (by have:=h.rt;omega) (by have:=h.rt;omega);have l4:=vT (n:=x.code.length) (by have:=h.cl;omega);have l5:=Jj (f:=kb) (c:=5) x.code fun i hi=>KN (h.ct i hi);have l6:=vT (n:=x.depth.toNat) (by have:=h.d1;omega);have l7:=vT (n:=x.pot.toNat) (by have:=h.p1;omega);have l8:=Eh (l:=x.phi) (fun t ht=>by have:=h.pt t ht;omega) (by have:=h.pl;omega);have:=h.al;have:=h.ll;have:=h.cl;have:=h.pl;unfold vN;simp only[Xh];omega
def OkL(n:Int):Prop:= -2147483648<=n/\n<=2147483647
def iF(m:za):Prop:=zV m=true/\∀n ∈m.ints,OkL n
def At3(w:World)(p:Addr)(x y z:Value):Prop:=w.cell? p=some x/\w.cell? (zc p 1)=some y/\w.cell? (zc p 2)=some z
theorem At3.keep{w w':World}{p:Addr}{x y z:Value}{B:Nat}(h:At3 w p x y z)(hb:Below B w w')(hp:p.block<B):At3 w' p x y z:=
 ⟨(hb.cell hp).trans h.1,(hb.cell (p:=zc p 1) hp).trans h.2.1,(hb.cell (p:=zc p 2) hp).trans h.2.2⟩
theorem zQ.grown{w w':World}{N g:Nat}{vs:List Value}(H:zQ w N vs)(hg:w.grownBy w' (some g))(hN:N<w.heap.size)(hne:¬g=N):zQ w' N vs:=fun i v h=>by
 obtain⟨_,_,_,_,hb⟩:=hg;have e:=hb N hN (fun x=>hne (by have h:=x;simp at h;omega));exact(XU (w:=w) (a:=⟨N,i,none⟩) e).trans (H i v h)
theorem qht{w:World}{B e s n:Nat}{v:Value}{xs:List Value}(h:w.ownsRow B e s v n xs):w.drew.ownsRow B e s v n xs:=h
theorem own_n{w:World}{B e n:Nat}{v:Value}{l:List Int}(h:w.ownsRow B e 1 v n (l.map (Value.int .u8))):n=l.length:=by
 have:=h.1
 grind
theorem qcf{w:World}{B e n:Nat}{v:Value}{l l':List Int}(h:w.ownsRow B e 1 v n (l.map (Value.int .u8)))(e':l=l'):w.ownsRow B e 1 v l'.length (l'.map (Value.int .u8)):=by
 grind [own_n]
theorem far_of{g g6 N:Nat}{w:World}{n c:Nat}(hor:(Value.slice (some ⟨g,0,none⟩) n c).ownBlock=some g6\/g6=w.heap.size)(hg:¬g=N)(hN:N<w.heap.size):¬g6=N:=by
 rcases hor with h|h
 ·have:g=g6:=by simpa[Value.ownBlock]using h
  omega
 ·omega
abbrev plimO:Obj:= .cells #[.int .u8 112,.int .u8 108,.int .u8 105,.int .u8 109] 5
abbrev Jp:Obj:= .cells #[.int .u8 112,.int .u8 108,.int .u8 105,.int .u8 109] 5 (4,5)
theorem Ky(w:World)(N:Nat)(hN:w.heap.size=N):(convert 22 22 (.slice (some ⟨N,0,none⟩) 4 4)).run Tryz.prog (w.alloc plimO)= .ok (.slice (some ⟨N,0,none⟩) 4 4) (w.alloc Jp):=by
 subst hN;exact Lib.run_convert_bytes_const (P:=Tryz.prog) w 22 5 _ 4 4 Tryz.underlying22 Tryz.underlying5
theorem RN(w:World):∀j u,(jm.map (Value.int .u8))[j]? =some u->(w.alloc Jp).cell? ((⟨w.heap.size,0,none⟩:Addr).add j)=some u:=by
 intro j u hj;have e:(Addr.add ⟨w.heap.size,0,none⟩ j)=⟨w.heap.size,j,none⟩:=by
  unfold Addr.add;grind
 have hh:(w.alloc Jp).heap[w.heap.size]? =some Jp:=Xz w _;rw[e];simp only[World.cell?,hh]
 match j,hj with
 |0,hj=>simp[jm]at hj;grind
 |1,hj=>simp[jm]at hj;grind
 |2,hj=>simp[jm]at hj;grind
 |3,hj=>simp[jm]at hj;grind
 |j+4,hj=>simp[jm]at hj
theorem TS{w:World}{B:Nat}{ad:Addr}{xs:List Value}(h:zw w B (some ad) xs):∀j u,xs[j]? =some u->w.cell? (ad.add j)=some u:=fun j u hj=>by
 obtain⟨a,e,_,hc⟩:=h j u hj
 grind
theorem TB{w:World}{B e:Nat}{v:Value}{l:List Int}(h:w.ownsRow B e 1 v l.length (l.map (Value.int .u8)))(hl:0<l.length):
  ∃g cap,v= .slice (some ⟨g,0,none⟩) l.length cap/\zw w w.heap.size (some ⟨g,0,none⟩) (l.map (Value.int .u8)):=by
 grind [KA]
def ji:za:=⟨[],[],[],[],[],0,0⟩
def rT(l:List Int)(m:za)(er:Int):Prop:=
 (er=0/\zV m=true/\Js m=l/\l.length<=8192)\/(er=2/\m=ji/\∀m',iF m'->Js m'=l->8192<l.length)
theorem PL(m:za):∀b ∈Js m,0<=b/\b<=255:=by
 have hT:∀t,∀b ∈jA t,0<=b/\b<=255:=fun t b hb=>by
  unfold jA at hb;split at hb
  ·rcases Xu.mp hb with g|g<;>exact QL _ b g
  ·exact QL _ b hb
 have hTs:∀l,∀b ∈ZU l,0<=b/\b<=255:=fun l b hb=>by
  unfold ZU at hb;rcases Xu.mp hb with g|g
  ·exact QL _ b g
  grind
 have hNs:∀l,∀b ∈Qr l,0<=b/\b<=255:=fun l b hb=>by
  unfold Qr at hb;rcases Xu.mp hb with g|g
  ·exact QL _ b g
  ·obtain⟨t,_,g⟩:=List.mem_flatMap.mp g;exact QL _ b g
 have hC:∀c,∀b ∈kw c,0<=b/\b<=255:=fun c b hb=>by
  unfold kw at hb
  grind [QL]
 have hM:∀x,∀b ∈vN x,0<=b/\b<=255:=fun x b hb=>by
  unfold vN at hb;simp only[Xu,List.mem_flatMap]at hb;rcases hb with g|g|g|g|⟨i,_,g⟩|g|g|g
  ·grind
  ·grind
  ·grind
  ·exact QL _ b g
  ·exact q74 _ _ _ b g
  ·exact QL _ b g
  ·exact QL _ b g
  grind
 intro b hb;unfold Js at hb;simp only[Xu,List.mem_flatMap]at hb;rcases hb with g|g|⟨c,_,g⟩|g|g|⟨c,_,g⟩|g|⟨c,_,g⟩|g|g|g
 ·simp[jm]at g;omega
 ·exact QL _ b g
 ·grind
 ·grind
 ·exact QL _ b g
 ·exact QL _ b g
 ·exact QL _ b g
 ·grind
 ·grind
 ·exact QL _ b g
 ·exact QL _ b g
theorem Sk(m:za):4<(Js m).length:=by
 have:=lT m.classes.length;unfold Js jm
 grind [Xh,XI,List.length_nil]
theorem LZ{w:World}{B:Nat}{h:zh}{m:za}(H:zr w B h m):∀n ∈m.ints,OkL n:=fun n hn=>by
 obtain⟨i,hi⟩:=List.getElem?_of_mem hn;obtain⟨_,_,_,_,b0,b1⟩:=H.ints.row i n hi;exact⟨b0,b1⟩
theorem q95{m:za}(h:iF m):(Js m).length<=30000:=by
 have F:=ru h.1;have l0:=vT (n:=m.classes.length) (by have:=F.cl;omega);have l1:=Jj (f:=kw) (c:=250) m.classes fun c hc=>Lf (F.ct c hc);have l2:=Aj (l:=m.statics) (fun t ht=>by have:=F.st t ht;omega) (by have:=F.sl;omega);have l3:=vT (n:=m.ints.length) (by have:=F.il;omega);have l4:=Jj (f:=ZZ) (c:=9) m.ints fun n hn=>vT (by have:=h.2 n hn;have:=Fa this.1 this.2;omega);have l5:=vT (n:=m.methods.length) (by have:=F.ml;omega);have l6:=Jj (f:=vN) (c:=1500) m.methods fun x hx=>Le (F.mt x hx);have l7:=Eh (l:=m.entries) (fun t ht=>by have:=F.et t ht;omega) (by have:=F.el;omega);have l8:=vT (n:=m.stack.toNat) (by have:=F.k1;omega);have l9:=vT (n:=m.heap.toNat) (by have:=F.h1;omega);have:=F.cl;have:=F.sl;have:=F.il;have:=F.ml;have:=F.el;unfold Js jm
 grind [Xh,XI,List.length_nil]
def Bts(l:List Int):Prop:=l.length<=1048576/\∀b ∈l,0<=b/\b<=255
def zS{α:Type}(enc:α->List Int)(ok:α->Prop)(rest:List Int)(bad:Bool)(x:α)(rest':List Int)(bad':Bool):Prop:=
 Bts rest'/\(bad'=false->bad=false/\rest=enc x++rest')/\∀y r,bad=false->ok y->rest=enc y++r->bad'=false/\x=y/\rest'=r
theorem qi9{a l:List Int}(h:Bts (a++l)):Bts l:=⟨by have:=h.1;grind,fun b hb=>h.2 b (by grind)⟩
theorem Uf{rest rest':List Int}{bad bad':Bool}{n most:Int}(hb:Bts rest)(hm:0<=most)(hm2:most<=34359738367)(h:ql rest bad most=(n,rest',bad')):
  0<=n/\n<=most/\zS vu (fun n=>0<=n/\n<=most) rest bad n rest' bad':=by
 have hr:=Sa rest bad most hm;rw[h]at hr;refine⟨hr.1,hr.2,?_,fun hb'=> ?_,fun y r h0 hy hr'=> ?_⟩
 ·obtain⟨n1,r1,b1,h1,h2,h3⟩:=KJ (rest:=rest) (bad:=bad) (most:=most) hb.1 hb.2;rw[h]at h1;simp only[Prod.mk.injEq]at h1;obtain⟨rfl,rfl,rfl⟩:=h1;exact⟨h2,h3⟩
 ·subst hb';cases bad
  ·exact⟨rfl,(EH hb.2 h).1⟩
  grind [EG]
 grind [EQ,Prod.mk.injEq]
theorem qhj(rest:List Int):(Qw rest true).2.2=true:=by
 unfold Qw
 grind [EG]
theorem qdi{rest:List Int}{bad:Bool}{op a b:Int}(hb:Bts rest)(h:(Qw rest bad).2.2=false->(Qw rest bad).1=(op,a,b)):
  ∃rest',zS kb (fun i=>qs i.1 i.2.1 i.2.2=true) rest bad (op,a,b) rest' (Qw rest bad).2.2/\((Qw rest bad).2.2=false->rest'=(Qw rest bad).2.1):=by
 obtain⟨g,hg⟩:=zj (Qw rest bad);obtain⟨x,r,b'⟩:=g;rw[hg]at h;rw[hg];dsimp only at h⊢
 cases b'
 ·obtain rfl:=h rfl;have hbad:bad=false:=by
   grind [qhj]
  subst hbad;have e:=(qdj hb.2 hg).1;refine⟨r,⟨(by grind [qi9]),fun _=>⟨rfl,e⟩,fun y r' _ hy he=> ?_⟩,fun _=>rfl⟩;have e2:=Wx r' hy;rw[show QR y.1 y.2.1 y.2.2=kb y from rfl,<-he,hg]at e2
  grind
 ·refine⟨[],⟨⟨by simp,by simp⟩,(by grind),fun y r' hbad hy he=> ?_⟩,(by grind)⟩;subst hbad;have e2:=Wx r' hy;rw[show QR y.1 y.2.1 y.2.2=kb y from rfl,<-he,hg]at e2;simp at e2
section
variable{α β:Type}{e1:α->List Int}{o1:α->Prop}{e2:β->List Int}{o2:β->Prop}{rest r1 r2:List Int}{bad b1 b2:Bool}{x:α}{y:β}
theorem zS.seq(h1:zS e1 o1 rest bad x r1 b1)(h2:zS e2 o2 r1 b1 y r2 b2):zS (fun p:α×β=>e1 p.1++e2 p.2) (fun p=>o1 p.1/\o2 p.2) rest bad (x,y) r2 b2:=by
 refine⟨h2.1,fun hb=> ?_,fun z r hb ho he=> ?_⟩
 ·obtain⟨g1,g2⟩:=h2.2.1 hb;obtain⟨g3,g4⟩:=h1.2.1 g1
  grind
 ·obtain⟨g1,g2,g3⟩:=h1.2.2 z.1 (e2 z.2++r) hb ho.1 (by grind);obtain⟨g4,g5,g6⟩:=h2.2.2 z.2 r g1 ho.2 g3
  grind
theorem zS.map(f:α->β)(h:zS e1 o1 rest bad x r1 b1)(he:e2 (f x)=e1 x)(ho:∀z,o2 z->∃y,o1 y/\f y=z/\e2 z=e1 y):zS e2 o2 rest bad (f x) r1 b1:=by
 refine⟨h.1,fun hb=> ?_,fun z r hb hz hr=> ?_⟩
 ·obtain⟨g1,g2⟩:=h.2.1 hb
  grind
 ·obtain⟨y,h1,h2,h3⟩:=ho z hz;obtain⟨g1,g2,g3⟩:=h.2.2 y r hb h1 (by rw[hr,h3])
  grind
theorem zS.ls_nil(hb:Bts rest):zS (fun l:List α=>l.flatMap e1) (fun l=>l.length=0/\∀y ∈l,o1 y) rest bad [] rest bad:=
 ⟨hb,fun h=>⟨h,by simp⟩,fun z r h hz hr=>by
  obtain rfl:z=[]:=Wp hz.1;exact⟨h,rfl,by simpa using hr⟩⟩
theorem zS.ls_snoc{xs:List α}{k:Nat}(h1:zS (fun l:List α=>l.flatMap e1) (fun l=>l.length=k/\∀y ∈l,o1 y) rest bad xs r1 b1)(h2:zS e1 o1 r1 b1 x r2 b2):
  zS (fun l:List α=>l.flatMap e1) (fun l=>l.length=k+1/\∀y ∈l,o1 y) rest bad (xs++[x]) r2 b2:=by
 refine⟨h2.1,fun hb=> ?_,fun z r hb hz hr=> ?_⟩
 ·obtain⟨g1,g2⟩:=h2.2.1 hb;obtain⟨g3,g4⟩:=h1.2.1 g1
  grind
 ·have hne:z≠ []:=(by grind)
  have hz':=List.dropLast_concat_getLast hne;generalize z.dropLast=z0 at*
  generalize z.getLast hne=y at*
  subst hz';obtain⟨g1,g2,g3⟩:=h1.2.2 z0 (e1 y++r) hb (by grind) (by grind);obtain⟨g4,g5,g6⟩:=h2.2.2 y r g1 (hz.2 y (by simp)) g3
  grind
theorem zS.ls_end{n most:Int}{xs:List α}{k:Nat}(hn0:0<=n)(hk:k=n.toNat)(hxk:xs.length=k)(h1:zS vu (fun n=>0<=n/\n<=most) rest bad n r1 b1)(h2:zS (fun l:List α=>l.flatMap e1) (fun l=>l.length=k/\∀y ∈l,o1 y) r1 b1 xs r2 b2):
  zS (fun l:List α=>zG l.length++l.flatMap e1) (fun l=>(l.length:Int)<=most/\∀y ∈l,o1 y) rest bad xs r2 b2:=by
 refine⟨h2.1,fun hb=> ?_,fun z r hb hz hr=> ?_⟩
 ·obtain⟨g1,g2⟩:=h2.2.1 hb;obtain⟨g3,g4⟩:=h1.2.1 g1
  grind
 ·obtain⟨g1,g2,g3⟩:=h1.2.2 (z.length:Int) (z.flatMap e1++r) hb ⟨by omega,hz.1⟩ (by grind);obtain⟨g4,g5,g6⟩:=h2.2.2 z r g1 (by grind) g3
  grind
end
theorem zS.ty3{rest r1 r2:List Int}{bad b1 b2:Bool}{m:Int}(h1:zS vu (fun n=>0<=n/\n<=5) rest bad 3 r1 b1)(h2:zS vu (fun n=>0<=n/\n<=7) r1 b1 m r2 b2):
  zS jA (fun t=>qG t=true) rest bad (3,m) r2 b2:=by
 refine⟨h2.1,fun hb=> ?_,fun z r hb hz hr=> ?_⟩
 ·obtain⟨g1,g2⟩:=h2.2.1 hb;obtain⟨g3,g4⟩:=h1.2.1 g1;exact⟨g3,by rw[g4,g2,show jA (3,m)=zG 3++zG m.toNat from Xb rfl,XT];rfl⟩
 ·have hz':=XD hz;by_cases h3:z.1=3
  ·rw[show jA z=zG 3++zG z.2.toNat from Xb h3,XT]at hr;obtain⟨g1,g2,g3⟩:=h1.2.2 3 (zG z.2.toNat++r) hb (by omega) hr;obtain⟨g4,g5,g6⟩:=h2.2.2 z.2 r g1 (by omega) g3
   grind
  ·rw[show jA z=zG z.1.toNat from Xa h3]at hr;obtain⟨g1,g2,g3⟩:=h1.2.2 z.1 r hb (by omega) hr;omega
theorem zS.ty0{rest r1:List Int}{bad b1:Bool}{n:Int}(hn:¬n=3)(h1:zS vu (fun n=>0<=n/\n<=5) rest bad n r1 b1):zS jA (fun t=>qG t=true) rest bad (n,0) r1 b1:=by
 refine⟨h1.1,fun hb=> ?_,fun z r hb hz hr=> ?_⟩
 ·obtain⟨g3,g4⟩:=h1.2.1 hb;exact⟨g3,by rw[g4,show jA (n,0)=zG n.toNat from Xa hn]⟩
 ·have hz':=XD hz;by_cases h3:z.1=3
  ·rw[show jA z=zG 3++zG z.2.toNat from Xb h3,XT]at hr;obtain⟨g1,g2,g3⟩:=h1.2.2 3 (zG z.2.toNat++r) hb (by omega) hr;omega
  ·rw[show jA z=zG z.1.toNat from Xa h3]at hr;obtain⟨g1,g2,g3⟩:=h1.2.2 z.1 r hb (by omega) hr
   grind
theorem zS.long{rest r1:List Int}{bad b1:Bool}{n:Int}(h0:0<=n)(h1:zS vu (fun n=>0<=n/\n<=4294967295) rest bad n r1 b1):zS ZZ OkL rest bad (zag n) r1 b1:=
 h1.map zag (by unfold ZZ;rw[qit h0]) fun z hz=>⟨zig z,⟨zig_lo,Fa hz.1 hz.2⟩,qiu z,rfl⟩
abbrev Fu(l:List (Int×Int)):List Int:=zG l.length++l.flatMap jA
abbrev Mc(l:List Int):List Int:=zG l.length++l.flatMap vu
theorem zS.cls{rest r0 r1 r2:List Int}{bad b0 b1 b2:Bool}{n:Int}{f:List (Int×Int)}{s:List Int}(hn:0<=n)(h0:zS vu (fun n=>0<=n/\n<=8) rest bad n r0 b0)
  (h1:zS Fu (fun l=>(l.length:Int)<=8/\∀t ∈l,qG t=true) r0 b0 f r1 b1) (h2:zS Mc (fun l=>(l.length:Int)<=4/\∀t ∈l,0<=t/\t<=11) r1 b1 s r2 b2):
  zS kw (fun c=>Qa c=true) rest bad ⟨n - 1,f,s⟩ r2 b2:=
 (h0.seq (h1.seq h2)).map (fun p=>zW.mk (p.1 - 1) p.2.1 p.2.2) (by unfold kw ZU Qr;grind) fun z hz=>by
  obtain⟨sup,f,s⟩:=z;unfold Qa at hz;simp only[Xt]at hz;obtain⟨z1,z2,z3⟩:=hz;have z1:=dZ.mp z1;have z2:(f.length:Int)<=8/\∀t ∈f,qG t=true:=XD z2;have z3:(s.length:Int)<=4/\∀x ∈s,0<=x/\x<=11:=XD z3;exact⟨(sup+1,f,s),(by grind),by simp,rfl⟩
abbrev encCl(l:List (Int×Int×Int)):List Int:=zG l.length++l.flatMap kb
theorem zS.mth{r0 r1 r2 r3 r4 r5 r6 r7:List Int}{b0 b1 b2 b3 b4 b5 b6 b7:Bool}{a l:List (Int×Int)}{t:Int×Int}{c:List (Int×Int×Int)}{d p:Int}{f:List Int}
  (h0:zS Fu (fun l=>(l.length:Int)<=4/\∀t ∈l,qG t=true) r0 b0 a r1 b1) (h1:zS Fu (fun l=>(l.length:Int)<=8/\∀t ∈l,qG t=true) r1 b1 l r2 b2)
  (h2:zS jA (fun t=>qG t=true) r2 b2 t r3 b3) (h3:zS encCl (fun l=>(l.length:Int)<=64/\∀i ∈l,qs i.1 i.2.1 i.2.2=true) r3 b3 c r4 b4)
  (h4:zS vu (fun n=>0<=n/\n<=8) r4 b4 d r5 b5) (h5:zS vu (fun n=>0<=n/\n<=4096) r5 b5 p r6 b6) (h6:zS Mc (fun l=>(l.length:Int)<=64/\∀t ∈l,0<=t/\t<=4096) r6 b6 f r7 b7):
  zS vN (fun x=>vi x=true) r0 b0 ⟨a,l,t,c,d,p,f⟩ r7 b7:=
 (h0.seq (h1.seq (h2.seq (h3.seq (h4.seq (h5.seq h6)))))).map (fun q=>zl.mk q.1 q.2.1 q.2.2.1 q.2.2.2.1 q.2.2.2.2.1 q.2.2.2.2.2.1 q.2.2.2.2.2.2) (by unfold vN ZU Qr;grind) fun z hz=>by
  obtain⟨a,l,t,c,d,p,f⟩:=z;unfold vi at hz;simp only[Xt,Xw]at hz;obtain⟨z1,z2,z3,z4,z5,z6,z7,z8⟩:=hz;exact⟨(a,l,t,c,d,p,f),⟨XD z1,XD z2,z3,⟨z4,WN z8⟩,dZ.mp z5,dZ.mp z6,XD z7⟩,rfl,by unfold vN ZU Qr;grind⟩
def ib(m:za):List Int:=zG m.classes.length++(m.classes.flatMap kw++(ZU m.statics++(zG m.ints.length++(m.ints.flatMap ZZ++(zG m.methods.length++(m.methods.flatMap vN++(Qr m.entries++(zG m.stack.toNat++zG m.heap.toNat))))))))
theorem IP(m:za):Js m=jm++ib m:=rfl
theorem zS.img{r0 r1 r2 r3 r4 r5 r6 r7:List Int}{b0 b1 b2 b3 b4 b5 b6 b7:Bool}{cl:List zW}{st:List (Int×Int)}{it:List Int}{me:List zl}{en:List Int}{k h:Int}
  (h0:zS (fun l:List zW=>zG l.length++l.flatMap kw) (fun l=>(l.length:Int)<=8/\∀c ∈l,Qa c=true) r0 b0 cl r1 b1) (h1:zS Fu (fun l=>(l.length:Int)<=8/\∀t ∈l,qG t=true) r1 b1 st r2 b2)
  (h2:zS (fun l:List Int=>zG l.length++l.flatMap ZZ) (fun l=>(l.length:Int)<=16/\∀n ∈l,OkL n) r2 b2 it r3 b3) (h3:zS (fun l:List zl=>zG l.length++l.flatMap vN) (fun l=>(l.length:Int)<=12/\∀x ∈l,vi x=true) r3 b3 me r4 b4)
  (h4:zS Mc (fun l=>(l.length:Int)<=12/\∀t ∈l,0<=t/\t<=11) r4 b4 en r5 b5) (h5:zS vu (fun n=>0<=n/\n<=4096) r5 b5 k r6 b6) (h6:zS vu (fun n=>0<=n/\n<=4096) r6 b6 h r7 b7):
  zS ib iF r0 b0 ⟨cl,st,it,me,en,k,h⟩ r7 b7:=
 (h0.seq (h1.seq (h2.seq (h3.seq (h4.seq (h5.seq h6)))))).map (fun q=>za.mk q.1 q.2.1 q.2.2.1 q.2.2.2.1 q.2.2.2.2.1 q.2.2.2.2.2.1 q.2.2.2.2.2.2) (by unfold ib ZU Qr;grind) fun z hz=>by
  obtain⟨cl,st,it,me,en,k,h⟩:=z;obtain⟨hf,hi⟩:=hz;unfold zV VH at hf;simp only[Xt,Xw]at hf;obtain⟨⟨z1,z2,z3,z4,z5,z6,z7⟩,z8,z9⟩:=hf;exact⟨(cl,st,it,me,en,k,h),⟨(by grind),XD z4,⟨z2,hi⟩,(by grind),XD z5,dZ.mp z6,dZ.mp z7⟩,rfl,by unfold ib ZU Qr;grind⟩
theorem qe6{l:List Int}{m:za}{b:Bool}(hl:l.length<=8192)(h:zS ib iF (l.drop 4) false m [] false)(hp:l.take 4=jm)(hf:zV m=true):rT l m 0:=by
 refine .inl ⟨rfl,hf,?_,hl⟩;have e:=(h.2.1 rfl).2
 grind [IP,List.take_append_drop]
theorem q5h{l:List Int}(hl:8192<l.length):rT l ji 2:= .inr ⟨rfl,rfl,fun _ _ _=>hl⟩
theorem q5i{l:List Int}(hp:¬l.take 4=jm):rT l ji 2:= .inr ⟨rfl,rfl,fun m' _ e=>absurd (by rw[<-e,IP];rfl) hp⟩
theorem Sn{l r:List Int}{m:za}{b:Bool}(h:zS ib iF (l.drop 4) false m r b)(hn:¬(b=false/\r=[]/\zV m=true)):rT l ji 2:=by
 refine .inr ⟨rfl,rfl,fun m' hm e=>absurd ?_ hn⟩;have e2:l.drop 4=ib m'++[]:=by rw[<-e,IP,List.append_nil];rfl
 obtain⟨g1,g2,g3⟩:=h.2.2 m' [] rfl hm e2;exact⟨g1,g3,by rw[g2];exact hm.1⟩
def NGet(N:Nat)(most:Int)(rest:List Int)(bad:Bool)(w:World)(e:Ending)(w':World):Prop:=
 ∃n rest' bad',e= .returned (.int .i64 n)/\0<=n/\n<=most/\Rd w' N rest' bad'/\w.grownBy w' (some N)/\zS vu (fun n=>0<=n/\n<=most) rest bad n rest' bad'
def LGet(N:Nat)(rest:List Int)(bad:Bool)(w:World)(e:Ending)(w':World):Prop:=
 ∃n rest' bad',e= .returned (.int .i32 n)/\OkL n/\Rd w' N rest' bad'/\w.grownBy w' (some N)/\zS ZZ OkL rest bad n rest' bad'
def TGet(N:Nat)(rest:List Int)(bad:Bool)(w:World)(e:Ending)(w':World):Prop:=
 ∃t rest' bad',e= .returned (zF t.1 t.2)/\Rd w' N rest' bad'/\w.grownBy w' (some N)/\zS jA (fun t=>qG t=true) rest bad t rest' bad'
def IGet(N:Nat)(rest:List Int)(bad:Bool)(w:World)(e:Ending)(w':World):Prop:=
 ∃i rest' bad',e= .returned (qt i.1 i.2.1 i.2.2)/\Rd w' N rest' bad'/\w.grownBy w' (some N)/\zS kb (fun i=>qs i.1 i.2.1 i.2.2=true) rest bad i rest' bad'
theorem Rd.far{w w':World}{N:Nat}{rest:List Int}{bad:Bool}(h:Rd w N rest bad)(hb:Below w.heap.size w w'):Rd w' N rest bad:=h.keep hb
theorem gU(N:Nat)(most:Int)(rest:List Int)(bad:Bool)(w:World)(hb:Bts rest)(hm:0<=most)(hm2:most<=34359738367)(h:Rd w N rest bad):
  Calls Tryz.prog 79 #[.pointer (some ⟨N,0,none⟩),.int .i64 most] w (NGet N most rest bad w):=
 (KT N N rest bad most w hb.1 hb.2 (zn _) h).mono fun e w' hh=>by
  have hg:=Rx hh;obtain⟨⟨rfl,hrd,_⟩,_⟩:=hh;obtain⟨g1,g2,g3⟩:=Uf hb hm hm2 (rfl:ql rest bad most=((ql rest bad most).1,(ql rest bad most).2.1,(ql rest bad most).2.2));exact⟨_,_,_,rfl,g1,g2,hrd,hg,g3⟩
theorem qcu(N:Nat)(rest:List Int)(bad:Bool)(w:World)(hb:Bts rest)(h:Rd w N rest bad):
  Calls Tryz.prog 120 #[.pointer (some ⟨N,0,none⟩)] w (LGet N rest bad w):=
 (q39 N N rest bad w hb.1 hb.2 (zn _) h).mono fun e w' hh=>by
  have hg:=Rx hh;obtain⟨⟨rfl,hrd,_⟩,_⟩:=hh;obtain⟨g1,g2,g3⟩:=Uf hb (by decide) (by decide) (rfl:ql rest bad 4294967295=((ql rest bad 4294967295).1,(ql rest bad 4294967295).2.1,(ql rest bad 4294967295).2.2));exact⟨_,_,_,rfl,qad g1 g2,hrd,hg,g3.long g1⟩
theorem qd8(N:Nat)(rest:List Int)(bad:Bool)(w:World)(hb:Bts rest)(h:Rd w N rest bad):
  Calls Tryz.prog 122 #[.pointer (some ⟨N,0,none⟩)] w (IGet N rest bad w):=
 (qhf N N rest bad w hb.1 hb.2 (zn _) h).mono fun e w' hh=>by
  obtain⟨⟨op,a,b,rfl,hrd,_,hv⟩,hg⟩:=hh;obtain⟨r,h1,h2⟩:=qdi hb hv;refine⟨(op,a,b),r,_,rfl,?_,hg,h1⟩;cases hbad:(Qw rest bad).2.2
  ·grind
  ·rw[hbad]at hrd;exact hrd.more
theorem qh7(N:Nat)(rest:List Int)(bad:Bool)(w:World)(hb:Bts rest)(h:Rd w N rest bad):
  Calls Tryz.prog 74 #[.pointer (some ⟨N,0,none⟩)] w (LGet N rest bad w):=by
 have HB:=zH hb;have HR:=zH h;clear hb h;go_enter Tryz.func74,Tryz.ntmps74;go_wp2_with(go_at_call 120;(with_reducible refine(qcu _ _ _ _ HB.out HR.out).mono ?_);rintro e w1 ⟨n,r1,b1,rfl,h1⟩;have H1:=zH h1;clear h1)
 go_ret;exact⟨n,r1,b1,rfl,H1.out⟩
theorem qh3(N:Nat)(rest:List Int)(bad:Bool)(w:World)(hb:Bts rest)(h:Rd w N rest bad):
  Calls Tryz.prog 78 #[.pointer (some ⟨N,0,none⟩)] w (NGet N 11 rest bad w):=by
 have HB:=zH hb;have HR:=zH h;clear hb h;go_enter Tryz.func78,Tryz.ntmps78;go_wp2_with(go_at_call 79;(with_reducible refine(gU _ _ _ _ _ HB.out (by decide) (by decide) HR.out).mono ?_);rintro e w1 ⟨n,r1,b1,rfl,h1⟩;have H1:=zH h1;clear h1)
 go_ret;exact⟨n,r1,b1,rfl,H1.out⟩
theorem U2(N:Nat)(rest:List Int)(bad:Bool)(w:World)(hb:Bts rest)(h:Rd w N rest bad):
  Calls Tryz.prog 123 #[.pointer (some ⟨N,0,none⟩)] w (NGet N 4096 rest bad w):=by
 have HB:=zH hb;have HR:=zH h;clear hb h;go_enter Tryz.func123,Tryz.ntmps123;go_wp2_with(go_at_call 79;(with_reducible refine(gU _ _ _ _ _ HB.out (by decide) (by decide) HR.out).mono ?_);rintro e w1 ⟨n,r1,b1,rfl,h1⟩;have H1:=zH h1;clear h1)
 go_ret;exact⟨n,r1,b1,rfl,H1.out⟩
theorem UJ(N:Nat)(rest:List Int)(bad:Bool)(w:World)(hb:Bts rest)(h:Rd w N rest bad):
  Calls Tryz.prog 72 #[.pointer (some ⟨N,0,none⟩)] w (TGet N rest bad w):=by
 have hlt:=h.lt;have HB:=zH hb;have HR:=zH (h.keep (zk (o:=(.cells #[.int .i64 0,.int .i64 0] 45))));have HB1:Hid ((w.alloc (.cells #[.int .i64 0,.int .i64 0] 45)).heap[w.heap.size]? =some (.cells [.int .i64 0,.int .i64 0].toArray 45 (0,0))):=zH (Xz _ _);have qX:Hid (w.grownBy (w.alloc (.cells #[.int .i64 0,.int .i64 0] 45)) (some N)):=zH (World.grownBy_alloc _ _ _);clear hb h;go_enter Tryz.func72,Tryz.ntmps72;go_upto_region 2 with(go_at_call 79;(with_reducible refine(gU _ _ _ _ _ HB.out (by decide) (by decide) HR.out).mono ?_);rintro e w1 ⟨n,r1,b1,rfl,n0,n5,hrd,hg,hrel⟩;have HR1:=zH hrd;have kC:=zH hrel;have Gm:=zH (dY qX.out hg);have HB1:=zH (wh HB1.out hg (by omega));clear hrd hg hrel)
 have HA2:=zH (zk (w:=w1) (o:=(.cells #[.int .i64 n,.int .i64 0] 45)));have HB2:Hid ((w1.alloc (.cells #[.int .i64 n,.int .i64 0] 45)).heap[w1.heap.size]? =some (.cells [.int .i64 n,.int .i64 0].toArray 45 (0,0))):=zH (Xz _ _);have HR2:=zH (HR1.out.keep HA2.out);have Ck:Hid ((w1.alloc (.cells #[.int .i64 n,.int .i64 0] 45)).heap[w.heap.size]? =some (.cells [.int .i64 0,.int .i64 0].toArray 45 (0,0))):=zH ((HA2.out.block _ (lt_of_block HB1.out)).trans HB1.out);have HG2:=zH (Q3 Gm.out (.cells #[.int .i64 n,.int .i64 0] 45));have hz:N<w1.heap.size:=HR1.out.lt;have hz1:w.heap.size<w1.heap.size:=lt_of_block HB1.out;generalize w1.alloc (.cells #[.int .i64 n,.int .i64 0] 45)=w2 at*
 have q0:=zR HB2.out 0 _ rfl;have q1:=zR HB2.out 1 _ rfl;by_cases h3:n=3
 ·subst h3;have HBt:=zH kC.out.1;go_wp2_with(go_at_call 79;(with_reducible refine(gU _ _ _ _ _ HBt.out (by decide) (by decide) HR2.out).mono ?_);rintro e w3 ⟨m,r2,b2,rfl,m0,m7,hrd,hg,hrel⟩;have HR3:=zH hrd;have QH:=zH hrel;have dU:=zH (dY HG2.out hg);have HB3:=zH (wh HB2.out hg (by omega));have FZ:=zH (wh Ck.out hg (by omega));have q0:=zR HB3.out 0 _ rfl;have q1:=zR HB3.out 1 _ rfl;have f1:=zU HB3.out 1;have p0:=zR FZ.out 0 _ rfl;have p1:=zR FZ.out 1 _ rfl;have g0:=zU FZ.out 0;have g1:=zU FZ.out 1;clear hrd hg hrel)
  refine Xk (v:=zF 3 m) (by simp[results,Tryz.results72,go_sem,p0,p1]) rfl ⟨(3,m),r2,b2,rfl,?_,?_,kC.out.ty3 QH.out⟩
  ·exact HR3.out.keep_to ((((zb w.heap.size w3).setCell (p:=⟨w1.heap.size,1,none⟩) (by grind) _).setCell (p:=⟨w.heap.size,0,none⟩) (zn _) _).setCell (p:=⟨w.heap.size,1,none⟩) (zn _) _) hlt
  ·exact aC (aC (aC dU.out (a:=⟨w1.heap.size,1,none⟩) (by grind) _) (a:=⟨w.heap.size,0,none⟩) (zn _) _) (a:=⟨w.heap.size,1,none⟩) (zn _) _
 ·have h3':(n==3)=false:=by grind
  have Co:=zH h3;clear h3;have p0:=zR Ck.out 0 _ rfl;have p1:=zR Ck.out 1 _ rfl;have g0:=zU Ck.out 0;have g1:=zU Ck.out 1;go_wp2_with fail
  refine Xk (v:=zF n 0) (by simp[results,Tryz.results72,go_sem,p0,p1]) rfl ⟨(n,0),r1,b1,rfl,?_,?_,kC.out.ty0 Co.out⟩
  ·exact HR2.out.keep_to (((zb w.heap.size w2).setCell (p:=⟨w.heap.size,0,none⟩) (zn _) _).setCell (p:=⟨w.heap.size,1,none⟩) (zn _) _) hlt
  ·exact aC (aC HG2.out (a:=⟨w.heap.size,0,none⟩) (zn _) _) (a:=⟨w.heap.size,1,none⟩) (zn _) _
def SG(w:World)(e:Ending)(w':World):Prop:=∃b:Bool,e= .returned (.bool b)/\Below w.heap.size w w'
set_option maxHeartbeats 1600000 in
theorem q4l(m:za)(h:zh)(B:Nat)(w:World)(hB:B<=w.heap.size)(H:zr w B h m):
  Calls Tryz.prog 4 #[zv h m] w (SG w):=by
 have HW:=zH (zk (w:=w) (o:=(ze h m)));have zO:=zH (H.below_to HW.out hB);have HBX:=zH (qd w h m);have HZ:Hid (w.heap.size<(w.alloc (ze h m)).heap.size):=zH (by simp);have HB:Hid (B<=(w.alloc (ze h m)).heap.size):=zH (Xe hB HW.out.size);clear hB H;go_enter Tryz.func4,Tryz.ntmps4;go_upto_region 1 with fail
 generalize w.alloc (ze h m)=w1 at*
 obtain⟨q0,q1,q2,q3,q4,q5,q6⟩:=HBX.out;go_wp2_with fail
 ·go_ret;exact⟨_,rfl,HW.out⟩
 ·go_loopw [3] (fun i wr=>∃k:Nat,k<=m.methods.length/\i= .int .i64 k/\Hid (Below w1.heap.size w1 wr)) (fun i _=>m.methods.length - (intOf i).toNat)
  case atStart=>exact⟨0,by omega,rfl,zH (zb _ _)⟩
  case round=>
   clear q0 q1 q2 q3 q4 q5 q6;obtain⟨k,hk,rfl,HX⟩:=hrel;obtain⟨q0,q1,q2,q3,q4,q5,q6⟩:=HBX.out.keep HX.out HZ.out;have l3:=zO.out.methods.le;have bz:=zO.out.methods.cap;by_cases hlt:k<m.methods.length
   ·obtain⟨ad,e0,hab,hc⟩:=(zO.out.methods.below_to kd.keeps HX.out HB.out).row.at_ hlt;rw[e0]at q3;clear e0;generalize m.methods[k]=x at*
    obtain⟨⟨A0,k0,s0,hs0⟩,⟨A1,k1,s1,hs1⟩,s2,s3,⟨A4,k4,s4,hs4⟩,s5,s6,⟨A7,k7,s7,hs7⟩⟩:=hc;clear hs0 hs1 hs4 hs7;go_wp2_with fail
    ·go_ret;exact⟨_,rfl,HW.out.trans ((HX.out.alloc HX.out.size _).mono (Xg HZ.out))⟩
    ·go_roundw;case rel=>exact⟨k+1,by omega,by go_num,zH (HX.out.alloc HX.out.size _)⟩
     case measure=>simp[intOf];omega
   ·go_wp2_with fail
    go_ret;exact⟨_,rfl,HW.out.trans (HX.out.mono (Xg HZ.out))⟩
theorem q64{m:za}{h:zh}{w0 w:World}(HI:Hid (zr w0 w0.heap.size h m))(HX:Hid (Below w0.heap.size w0 w)):Calls Tryz.prog 4 #[zv h m] w (SG w):=
 q4l m h w.heap.size w (zn _) (HI.out.now HX.out)
theorem b_(n:Int)(h:n<=9223372036854775807):∃Z,Hid (zG n.toNat=Z)/\Z.length<=9/\0<Z.length:=⟨_,zH rfl,vT (by omega),lT _⟩
theorem zo{t:Int×Int}(h:0<=t.1/\t.1<=5/\0<=t.2/\t.2<=7):∃Z,Hid (jA t=Z)/\Z.length<=18/\0<Z.length:=
 ⟨_,zH rfl,(by grind [AJ]),by unfold jA;grind [Xh,lT]⟩
theorem zt{l:List (Int×Int)}(h:∀t ∈l,0<=t.1/\t.1<=5/\0<=t.2/\t.2<=7)(hl:l.length<=1000):∃Z,Hid (ZU l=Z)/\Z.length<=9+18*l.length/\0<Z.length:=
 ⟨_,zH rfl,(by grind [Aj]),by unfold ZU;grind [Xh,lT]⟩
theorem n_{l:List Int}{b:Int}(h:∀t ∈l,0<=t/\t<=b)(hb:b<=9223372036854775807)(hl:l.length<=1000):∃Z,Hid (Qr l=Z)/\Z.length<=9+9*l.length/\0<Z.length:=
 ⟨_,zH rfl,(by grind [Eh]),by unfold Qr;grind [Xh,lT]⟩
theorem Ex{l:List (Int×Int)}{A:Option Addr}{cap B:Nat}{w0 w:World}(h:∀t ∈l,0<=t.1/\t.1<=5/\0<=t.2/\t.2<=7)(hl:l.length<=1000)(HS:Hid (zd zf 2 w0 B A cap l))(HB:Hid (B<=w0.heap.size))(HX:Hid (Below w0.heap.size w0 w)):
  Calls Tryz.prog 22 #[.slice A l.length cap] w (eP (ZU l) w):=
 q3u l A cap B w (by omega) (by grind) (Xe HB.out HX.out.size) (HS.out.below_to zf.keeps HX.out HB.out)
theorem Lb{l:List Int}{b:Int}{A:Option Addr}{cap B:Nat}{w0 w:World}(h:∀t ∈l,0<=t/\t<=b)(hb:b<=9223372036854775807)(hl:l.length<=1000)(HS:Hid (zd zu 1 w0 B A cap l))(HB:Hid (B<=w0.heap.size))(HX:Hid (Below w0.heap.size w0 w)):
  Calls Tryz.prog 23 #[.slice A l.length cap] w (eP (Qr l) w):=
 q3w l A cap B w (by omega) (by grind) (Xe HB.out HX.out.size) (HS.out.below_to zu.keeps HX.out HB.out)
theorem fu{f:FuncId}{args:Array Value}{w0 w:World}{Z V L:List Int}{n:Nat}{v:Value}{K:Ending->World->Prop}(hc:Calls Tryz.prog f args w (eP Z w))(E:Hid (Z=V))
  (HO:Hid (w.ownsRow w0.heap.size 5 1 v n (L.map (Value.int .u8)))) (HX:Hid (Below w0.heap.size w0 w))
  (h:∀A c w',Hid (zw w' w'.heap.size A (V.map (Value.int .u8)))->Hid (A=none->c=0)->Hid (w'.ownsRow w0.heap.size 5 1 v n (L.map (Value.int .u8)))->Hid (Below w0.heap.size w0 w')->K (.returned (.slice A V.length c)) w'):Calls Tryz.prog f args w K:=
 hc.mono fun e w' ⟨v5,he,ho,hb⟩=>by
  rw[he];rw[E.out]at ho;obtain⟨A,c,rfl,hL,hA⟩:=De ho;exact h A c w' (zH hL) (zH hA) (kpO HO hb) (zi HX hb)
theorem fq{f:FuncId}{args:Array Value}{w0 w:World}{Z V L:List Int}{n N:Nat}{v:Value}{cs:List Value}{K:Ending->World->Prop}(hc:Calls Tryz.prog f args w (eP Z w))(E:Hid (Z=V))(hV:0<V.length)
  (HO:Hid (w.ownsRow w0.heap.size 5 1 v n (L.map (Value.int .u8)))) (HX:Hid (Below w0.heap.size w0 w)) (HC:Hid (zQ w N cs)) (HN:Hid (N<w.heap.size))
  (h:∀g c w',Hid (∀j u,(V.map (Value.int .u8))[j]? =some u->w'.cell? ((⟨g,0,none⟩:Addr).add j)=some u)->Hid (w'.ownsRow w0.heap.size 5 1 v n (L.map (Value.int .u8)))->Hid (Below w0.heap.size w0 w')->Hid (zQ w' N cs)->Hid (N<w'.heap.size)->K (.returned (.slice (some ⟨g,0,none⟩) V.length c)) w'):Calls Tryz.prog f args w K:=
 hc.mono fun e w' ⟨v5,he,ho,hb⟩=>by
  rw[he];rw[E.out]at ho;obtain⟨g,c,rfl,hL⟩:=TB ho hV;exact h g c w' (zH (TS hL)) (kpO HO hb) (zi HX hb) (zH (HC.out.keep hb HN.out)) (zH (Xp HN.out hb.size))
theorem rV{o:Oper}{a:Act}{w0 w:World}{K:Act->World->Prop}{Q:Exit->Act->World->Prop}{s x:Operand}{A:Option Addr}{c B:Nat}{v:Value}{L V:List Int}
  (HO:Hid (w.ownsRow w0.heap.size 5 1 v L.length (L.map (Value.int .u8)))) (HL:Hid (zw w B A (V.map (Value.int .u8)))) (HA:Hid (A=none->c=0)) (HX:Hid (Below w0.heap.size w0 w))
  (ho:o.op= .call {callee:= .builtin .append,args:= #[s,x],argTypes:= #[22,22]}) (hs:a.eval s=v) (hx:a.eval x= .slice A V.length c) (hl:L.length+V.length<=100000)
  (h:∀v' w',Hid (w'.ownsRow w0.heap.size 5 1 v' (L++V).length ((L++V).map (Value.int .u8)))->Hid (Below w0.heap.size w0 w')->K (a.put o.dst v') w'):o.wp Tryz.prog a w K Q:=by
 obtain⟨i0,hi,hz0,hz1,hz2⟩:=info_parts mF;refine LQ s x 22 ho w0.heap.size 5 i0 (.int .u8 0) 1 Tryz.underlying22 hi hz0 hz1 hz2 rfl v _ _ hs HO.out A _ c B (V.map (Value.int .u8)) (by simp) hx HA.out HL.out (rC _) (by unfold maxLen;omega) (by omega) HX.out.size fun v' w' hown hgrow=> ?_;obtain⟨ho6,hb6⟩:=AP HX.out HO.out HX.out.size hown hgrow
 grind [Xh,zH]
theorem nD{o:Oper}{a:Act}{w0 w:World}{K:Act->World->Prop}{Q:Exit->Act->World->Prop}{s x:Operand}{g g5 n cg c N:Nat}{cs:List Value}{L V:List Int}
  (HO:Hid (w.ownsRow w0.heap.size 5 1 (.slice (some ⟨g,0,none⟩) n cg) n (L.map (Value.int .u8)))) (HL:Hid (∀j u,(V.map (Value.int .u8))[j]? =some u->w.cell? ((⟨g5,0,none⟩:Addr).add j)=some u)) (HX:Hid (Below w0.heap.size w0 w)) (HC:Hid (zQ w N cs)) (HN:Hid (N<w.heap.size)) (HG:Hid (¬g=N))
  (ho:o.op= .call {callee:= .builtin .append,args:= #[s,x],argTypes:= #[22,22]}) (hs:a.eval s= .slice (some ⟨g,0,none⟩) n cg) (hx:a.eval x= .slice (some ⟨g5,0,none⟩) V.length c) (hV:0<V.length) (hl:n+V.length<=100000)
  (h:∀g6 c6 w',Hid (w'.ownsRow w0.heap.size 5 1 (.slice (some ⟨g6,0,none⟩) (n+V.length) c6) (n+V.length) ((L++V).map (Value.int .u8)))->Hid (Below w0.heap.size w0 w')->Hid (zQ w' N cs)->Hid (N<w'.heap.size)->Hid (¬g6=N)->K (a.put o.dst (.slice (some ⟨g6,0,none⟩) (n+V.length) c6)) w'):o.wp Tryz.prog a w K Q:=by
 obtain⟨i0,hi,hz0,hz1,hz2⟩:=info_parts mF;refine wp_append_lies _ s x 22 ho w0.heap.size 5 i0 (.int .u8 0) 1 1 Tryz.underlying22 hi hz0 hz1 hz2 rfl (by decide) _ _ _ hs HO.out ⟨g5,0,none⟩ _ c (V.map (Value.int .u8)) hx (by simp) HL.out (rC _) hV (by unfold maxLen;omega) (by omega) HX.out.size _ rfl fun g6 c6 w' hown hgrow hor _=> ?_;obtain⟨ho6,hb6⟩:=AP HX.out HO.out HX.out.size hown hgrow;exact h g6 c6 w' (zH ho6) (zH hb6) (zH (HC.out.grown hgrow HN.out HG.out)) (zH (Xp HN.out hgrow.size)) (by grind [zH,far_of])
theorem iB{o:Oper}{ops:Array Oper}{a:Act}{w:World}{K:Act->World->Prop}{Q:Exit->Act->World->Prop}{E:Prop}(hgd:o.guard=none)(h:o.wp Tryz.prog a w K Q):if Region.wanted o (yielded ops a.tmps)=true then Oper.wp Tryz.prog o a w K Q else E:=by
 have hw:Region.wanted o (yielded ops a.tmps)=true:=by simp[Region.wanted,hgd]
 grind
theorem xor_u8(x y:Nat)(hx:x<256)(hy:y<256):bits .xor .u8 (x:Int) (y:Int)=((x ^^^ y:Nat):Int):=by
 have h1:(BitVec.ofInt 8 (x:Int)).toNat=x:=by rw[BitVec.toNat_ofInt];omega
 have h2:(BitVec.ofInt 8 (y:Int)).toNat=y:=by rw[BitVec.toNat_ofInt];omega
 show IntKind.u8.wrap ((BitVec.ofInt 8 (x:Int) ^^^ BitVec.ofInt 8 (y:Int)).toNat:Int)=_;rw[BitVec.toNat_xor,h1,h2];exact wraps_u8 _ (Int.natCast_nonneg _) (by have:x ^^^ y<2 ^ 8:=Nat.xor_lt_two_pow hx hy;exact_mod_cast this)
theorem qgo{w:World}{B e g n c i:Nat}{xs:List Value}(h:w.ownsRow B e 1 (.slice (some ⟨g,0,none⟩) n c) n xs)(hn:0<n):w.frozen? ⟨g,i,none⟩=false/\B<=g:=by
 rcases h.2 with⟨h1,_⟩|⟨g',cap,cur,h1,hb,hh,_⟩
 ·cases h1
 ·injection h1 with h1;simp at h1;subst h1;exact⟨by simp[World.frozen?,hh],hb⟩
theorem qct{w:World}{g k:Nat}{L:List Int}{v:Int}(h:zw w w.heap.size (some ⟨g,0,none⟩) (L.map (Value.int .u8)))(hk:k<L.length):
  zw (w.setCell ⟨g,k,none⟩ (.int .u8 v)) (w.setCell ⟨g,k,none⟩ (.int .u8 v)).heap.size (some ⟨g,0,none⟩) ((L.set k v).map (Value.int .u8)):=by
 intro j u hj;have yC:=Ed h k (by simpa using hk);have hz:(w.setCell ⟨g,k,none⟩ (.int .u8 v)).heap.size=w.heap.size:=by simp
 have hg:g<w.heap.size:=World.block_lt_of_cell? w _ yC;refine⟨_,rfl,by rw[hz];exact hg,?_⟩;have ea:(Addr.add ⟨g,0,none⟩ j)=⟨g,j,none⟩:=by
  unfold Addr.add;split
  ·rename_i h0;subst h0;rfl
  ·simp
 rw[ea];rw[XF,Wf]at hj;by_cases e:k=j
 ·subst e;rw[Xb rfl,Xb hk]at hj;simp at hj;subst hj;exact World.cell?_setCell_same (h:=yC) ..
 ·rw[Xa e]at hj;rw[World.cell?_setCell_other (b:=⟨g,j,none⟩) (h:=by intro x;injection x with _ x;exact e x)];have hjl:j<L.length:=by
   rcases Xl j L.length with g|g
   ·exact g
   ·rw[XE g]at hj;simp at hj
  rw[Xc hjl]at hj;simp at hj;have:=Ed h j (by simpa using hjl);rw[this];simp[hj]
