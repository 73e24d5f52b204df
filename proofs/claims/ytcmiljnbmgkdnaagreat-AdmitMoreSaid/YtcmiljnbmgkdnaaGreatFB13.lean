import Derived.Lib.SlBytesConst
import Derived.Test.YtcmiljnbmgkdnaaGreatFB07
namespace Go.Proofs.YtcmiljnbmgkdnaaGreat
set_option maxRecDepth 100000
set_option linter.unusedVariables false
set_option linter.unusedSimpArgs false
open Go.ChangeShapes Go.WideShapes Go.ChangeAt Go.RowKit
def jk(c:zJ):Bool:=zP c.sup (-1) 7&& (kC c.fields 8&& kh c.slots 4 11)
def q0l(l:List (Int×Int×Int)):Bool:=l.all fun i=>qf i.1 i.2.1 i.2.2
def qD(x:zh):Bool:=kC x.args 4&& (kC x.locals 8&& (qd x.ret&& (decide ((x.code.length:Int)≤64)&& (zP x.depth 0 8&& (zP x.pot 0 4096&& (kh x.phi 64 4096&& q0l x.code))))))
def Ze(m:za):Bool:=decide ((m.classes.length:Int)≤8)&& (decide ((m.ints.length:Int)≤16)&& (decide ((m.methods.length:Int)≤12)&& (kC m.statics 8&& (kh m.entries 12 11&& (zP m.stack 0 4096&& zP m.heap 0 4096)))))
def zK(m:za):Bool:=Ze m&& (m.classes.all jk&& m.methods.all qD)
theorem JQ{l:List (Int×Int)}{n:Int}{A:Option Addr}{cap B:Nat}{w0 w:World}{r:Bool}(HL:Hid (ze zc 2 w0 B A cap l))(HB:Hid (B≤w0.heap.size))(HX:Hid (Below w0.heap.size w0 w))(HR:Hid (kC l n=r)):
  Calls Tryz.prog 32 #[.slice A l.length cap,.int .i64 n] w fun e w'=>e= .returned (.bool r)∧Below w.heap.size w w':=by
 have h:=qj9 l n A cap B w (Xd HB.out HX.out.size) (HL.out.below_to zc.keeps HX.out HB.out);rw[HR.out]at h;exact h
theorem VY{l:List Int}{n most:Int}{A:Option Addr}{cap B:Nat}{w0 w:World}{r:Bool}(HL:Hid (ze zl 1 w0 B A cap l))(HB:Hid (B≤w0.heap.size))(HX:Hid (Below w0.heap.size w0 w))(HR:Hid (kh l n most=r)):
  Calls Tryz.prog 33 #[.slice A l.length cap,.int .i64 n,.int .i64 most] w fun e w'=>e= .returned (.bool r)∧w=w':=by
 have h:=qnu l n most A cap B w (Xd HB.out HX.out.size) (HL.out.below_to zl.keeps HX.out HB.out);rw[HR.out]at h;exact h
theorem qeb{t:Int×Int}{w:World}{r:Bool}(HR:Hid (qd t=r)):Calls Tryz.prog 35 #[zU t.1 t.2] w fun e w'=>e= .returned (.bool r)∧Below w.heap.size w w':=by
 have h:=q68 t w;rw[HR.out]at h;exact h
theorem Yy{P:Prop}(h:P:=by
 go_wp2_with(first|((first|(go_at_call 32;(with_reducible refine(JQ HSa HB2 HX2 D1).mono ?_))|(go_at_call 32;(with_reducible refine(JQ HSl HB2 HX2 D2).mono ?_))|(go_at_call 35;(with_reducible refine(qeb D3).mono ?_)));rintro e w' ⟨rfl,hb⟩;have HXc:=zj HXc hb;have HX2:=zj HX2 hb;obtain⟨r0,r1,r2,r3,r4,r5,r6,r7⟩:=zY (HBC.out.keep HX2.out HZ2.out);clear hb)|((first|(go_at_call 34;(with_reducible refine(vR D5).mono ?_))|(go_at_call 34;(with_reducible refine(vR D6).mono ?_))|(go_at_call 33;(with_reducible refine(VY HSp HB2 HX2 D7).mono ?_)));rintro e w' ⟨rfl,rfl⟩))
 go_ret;exact⟨by rw[E2.out];rfl,HW.out.trans (HXc.out.mono HZ'.out)⟩):P:=h
theorem Yx{P:Prop}(h:P:=by
 go_wp2_with(first|(go_at_call 32;(with_reducible refine(JQ HS1 HB HX H4).mono ?_);rintro e w' ⟨rfl,hb⟩;have HX:=zj HX hb;obtain⟨q0,q1,q2,q3,q4,q5,q6⟩:=HBX.out.keep HX.out HZ.out;clear hb)|((first|(go_at_call 33;(with_reducible refine(VY HS4 HB HX H5).mono ?_))|(go_at_call 34;(with_reducible refine(vR H6).mono ?_))|(go_at_call 34;(with_reducible refine(vR H7).mono ?_)));rintro e w' ⟨rfl,rfl⟩))
 go_ret;exact⟨by rw[E2.out];rfl,HW.out.trans (HX.out.mono HZ'.out)⟩):P:=h
theorem q49{P:Prop}(h:P:=by
 have E2:=zH (show zK m=false by unfold zK;rw[HNOT.out (by unfold jk;simp[D1.out,D2.out,D3.out])];simp);go_wp2_with(first|(go_at_call 34;(with_reducible refine(vR D1).mono ?_);rintro e w' ⟨rfl,rfl⟩)|(go_at_call 32;(with_reducible refine(JQ HSf HB2 HX2 D2).mono ?_);rintro e w' ⟨rfl,hb⟩;have HXc:=zj HXc hb;have HX2:=zj HX2 hb;obtain⟨r0,r1,r2⟩:=qw (HBC.out.keep HX2.out HZ2.out);clear hb)|(go_at_call 33;(with_reducible refine(VY HSs HB2 HX2 D3).mono ?_);rintro e w' ⟨rfl,rfl⟩))
 go_ret;exact⟨by rw[E2.out];rfl,HW.out.trans (HXc.out.mono HZ'.out)⟩):P:=h
set_option maxHeartbeats 6400000 in
theorem qb4(m:za)(h:zi)(B:Nat)(w:World)(hB:B≤w.heap.size)(H:zm w B h m):
  Calls Tryz.prog 15 #[zp h m] w fun e w'=>e= .returned (.bool (zK m))∧Below w.heap.size w w':=by
 have HW:=zH ((zb w.heap.size w).alloc (zn _) (zg h m));have HIM:=zH (H.below_to HW.out hB);have HBX:=zH (ql w h m);have HB:Hid (B≤(w.alloc (zg h m)).heap.size):=zH (Xd hB HW.out.size);have HZ:Hid (w.heap.size<(w.alloc (zg h m)).heap.size):=zH (by simp);have HZ':Hid (w.heap.size≤(w.alloc (zg h m)).heap.size):=zH (by simp);have HX:Hid (Below (w.alloc (zg h m)).heap.size (w.alloc (zg h m)) (w.alloc (zg h m))):=zH (zb _ _);have HS1:=zH HIM.out.statics;have HS4:=zH HIM.out.entries;have bounds:m.classes.length≤9223372036854775807∧m.ints.length≤9223372036854775807∧m.methods.length≤9223372036854775807:=by
  have:=HIM.out.classes.le;have:=HIM.out.classes.cap;have:=HIM.out.ints.le;have:=HIM.out.ints.cap;have:=HIM.out.methods.le;have:=HIM.out.methods.cap;omega
 obtain⟨bb0,bb1,bb2⟩:=bounds;obtain⟨b4,h4⟩:∃b,kC m.statics 8=b:=⟨_,rfl⟩
 have H4:=zH h4;obtain⟨b5,h5⟩:∃b,kh m.entries 12 11=b:=⟨_,rfl⟩
 have H5:=zH h5;obtain⟨b6,h6⟩:∃b,zP m.stack 0 4096=b:=⟨_,rfl⟩
 have H6:=zH h6;obtain⟨b7,h7⟩:∃b,zP m.heap 0 4096=b:=⟨_,rfl⟩
 have H7:=zH h7;clear hB H h4 h5 h6 h7;go_enter Tryz.func15,Tryz.ntmps15;by_cases c0:(8:Int)<m.classes.length
 ·have E2:=zH (show zK m=false by unfold zK Ze;rw[Xg (by omega)];rfl);exact Yx
 by_cases c1:(16:Int)<m.ints.length
 ·have E2:=zH (show zK m=false by unfold zK Ze;rw[Xm (by omega),Xg (p:=(m.ints.length:Int)≤16) (by omega)];rfl);exact Yx
 by_cases c2:(12:Int)<m.methods.length
 ·have E2:=zH (show zK m=false by unfold zK Ze;rw[Xm (by omega),Xm (p:=(m.ints.length:Int)≤16) (by omega),Xg (p:=(m.methods.length:Int)≤12) (by omega)];rfl);exact Yx
 cases b4
 ·have E2:=zH (show zK m=false by unfold zK Ze;simp[H4.out,H5.out,H6.out,H7.out]);exact Yx
 ·cases b5
  ·have E2:=zH (show zK m=false by unfold zK Ze;simp[H4.out,H5.out,H6.out,H7.out]);exact Yx
  ·cases b6
   ·have E2:=zH (show zK m=false by unfold zK Ze;simp[H4.out,H5.out,H6.out,H7.out]);exact Yx
   ·cases b7
    ·have E2:=zH (show zK m=false by unfold zK Ze;simp[H4.out,H5.out,H6.out,H7.out]);exact Yx
    ·have HHD:=zH (show Ze m=true by unfold Ze;rw[Xm (by omega),Xm (p:=(m.ints.length:Int)≤16) (by omega),Xm (p:=(m.methods.length:Int)≤12) (by omega),H4.out,H5.out,H6.out,H7.out];rfl);go_wp2_with(first|(go_at_call 32;(with_reducible refine(JQ HS1 HB HX H4).mono ?_);rintro e w' ⟨rfl,hb⟩;have HX:=zj HX hb;obtain⟨q0,q1,q2,q3,q4,q5,q6⟩:=HBX.out.keep HX.out HZ.out;clear hb)|((first|(go_at_call 33;(with_reducible refine(VY HS4 HB HX H5).mono ?_))|(go_at_call 34;(with_reducible refine(vR H6).mono ?_))|(go_at_call 34;(with_reducible refine(vR H7).mono ?_)));rintro e w' ⟨rfl,rfl⟩))
     go_loopw [3] (fun i wr=>∃k:Nat,k≤m.classes.length∧i= .int .i64 k∧Hid (∀c ∈m.classes.take k,jk c=true)∧Hid (Below (w.alloc (zg h m)).heap.size (w.alloc (zg h m)) wr)) (fun i _=>m.classes.length - (intOf i).toNat)
     case atStart=>exact⟨0,by omega,rfl,zH (by simp),HX⟩
     case round=>
      clear HX q0 q1 q2 q3 q4 q5 q6;obtain⟨k,hk,rfl,HN,HX⟩:=hrel;obtain⟨q0,q1,q2,q3,q4,q5,q6⟩:=HBX.out.keep HX.out HZ.out;have bc1:=HIM.out.classes.le;have bc2:=HIM.out.classes.cap;by_cases hlt:k<m.classes.length
      ·obtain⟨ad,e0,hab,hc⟩:=(HIM.out.classes.below_to qj.keeps HX.out HB.out).row.at_ hlt;rw[e0]at q0;clear e0;have HNOT:=zH (fun g:jk m.classes[k]=false=>vK hlt g);have HYES:=zH (fun g:jk m.classes[k]=true=>vH hlt HN.out g);generalize m.classes[k]=c at*
       obtain⟨s0,⟨A1,k1,s1,hs1⟩,⟨A2,k2,s2,hs2⟩⟩:=hc;obtain⟨d1,hd1⟩:∃b,zP c.sup (-1) 7=b:=⟨_,rfl⟩
       have D1:=zH hd1;obtain⟨d2,hd2⟩:∃b,kC c.fields 8=b:=⟨_,rfl⟩
       have D2:=zH hd2;obtain⟨d3,hd3⟩:∃b,kh c.slots 4 11=b:=⟨_,rfl⟩
       have D3:=zH hd3;have hA:Below wr.heap.size wr (wr.alloc (.cells #[.int .i64 c.sup,.slice A1 c.fields.length k1,.slice A2 c.slots.length k2] 81)):=(zb _ _).alloc (zn _) _;have hBr:B≤wr.heap.size:=Xd HB.out HX.out.size;have HXc:=zj HX hA;have HSf:=zH (hs1.below_to zc.keeps hA hBr);have HSs:=zH (hs2.below_to zl.keeps hA hBr);have HB2:=zH (Xd hBr hA.size);have HBC:=zH (qr wr [.int .i64 c.sup,.slice A1 c.fields.length k1,.slice A2 c.slots.length k2] 81);have HZ2:Hid (wr.heap.size<(wr.alloc (.cells #[.int .i64 c.sup,.slice A1 c.fields.length k1,.slice A2 c.slots.length k2] 81)).heap.size):=zH (by simp);clear hd1 hd2 hd3 hA hBr hs1 hs2 hab;go_upto_region 7 with fail
       generalize wr.alloc (.cells #[.int .i64 c.sup,.slice A1 c.fields.length k1,.slice A2 c.slots.length k2] 81)=w2 at*
       have HX2:Hid (Below w2.heap.size w2 w2):=zH (zb _ _);obtain⟨r0,r1,r2⟩:=qw HBC.out;cases d1
       ·exact q49
       ·cases d2
        ·exact q49
        ·cases d3
         ·exact q49
         ·have HOK:=zH (HYES.out (by unfold jk;rw[D1.out,D2.out,D3.out];rfl));go_wp2_with(first|(go_at_call 34;(with_reducible refine(vR D1).mono ?_);rintro e w' ⟨rfl,rfl⟩)|(go_at_call 32;(with_reducible refine(JQ HSf HB2 HX2 D2).mono ?_);rintro e w' ⟨rfl,hb⟩;have HXc:=zj HXc hb;have HX2:=zj HX2 hb;obtain⟨r0,r1,r2⟩:=qw (HBC.out.keep HX2.out HZ2.out);clear hb)|(go_at_call 33;(with_reducible refine(VY HSs HB2 HX2 D3).mono ?_);rintro e w' ⟨rfl,rfl⟩))
          go_roundw;case rel=>exact⟨k+1,by omega,by go_num,HOK,HXc⟩
          case measure=>simp[intOf];omega
      ·have HCA:=zH (vL HN.out (show m.classes.length≤k by omega));clear HN;go_wp2_with fail
       go_loopw [5] (fun i wr=>∃k:Nat,k≤m.methods.length∧i= .int .i64 k∧Hid (∀x ∈m.methods.take k,qD x=true)∧Hid (Below (w.alloc (zg h m)).heap.size (w.alloc (zg h m)) wr)) (fun i _=>m.methods.length - (intOf i).toNat)
       case atStart=>exact⟨0,by omega,rfl,zH (by simp),HX⟩
       case round=>
        clear HX q0 q1 q2 q3 q4 q5 q6 hlt hk;obtain⟨k,hk,rfl,HN,HX⟩:=hrel;obtain⟨q0,q1,q2,q3,q4,q5,q6⟩:=HBX.out.keep HX.out HZ.out;have bc3:=HIM.out.methods.le;have bc4:=HIM.out.methods.cap;by_cases hlt:k<m.methods.length
        ·obtain⟨ad,e0,hab,hc⟩:=(HIM.out.methods.below_to qC.keeps HX.out HB.out).row.at_ hlt;rw[e0]at q3;clear e0;have HNOT:=zH (fun g:qD m.methods[k]=false=>vK hlt g);have HYES:=zH (fun g:qD m.methods[k]=true=>vH hlt HN.out g);generalize m.methods[k]=x at*
         obtain⟨⟨A0,k0,s0,hs0⟩,⟨A1,k1,s1,hs1⟩,s2,s3,⟨A4,k4,s4,hs4⟩,s5,s6,⟨A7,k7,s7,hs7⟩⟩:=hc;obtain⟨d1,hd1⟩:∃b,kC x.args 4=b:=⟨_,rfl⟩
         have D1:=zH hd1;obtain⟨d2,hd2⟩:∃b,kC x.locals 8=b:=⟨_,rfl⟩
         have D2:=zH hd2;obtain⟨d3,hd3⟩:∃b,qd x.ret=b:=⟨_,rfl⟩
         have D3:=zH hd3;obtain⟨d5,hd5⟩:∃b,zP x.depth 0 8=b:=⟨_,rfl⟩
         have D5:=zH hd5;obtain⟨d6,hd6⟩:∃b,zP x.pot 0 4096=b:=⟨_,rfl⟩
         have D6:=zH hd6;obtain⟨d7,hd7⟩:∃b,kh x.phi 64 4096=b:=⟨_,rfl⟩
         have D7:=zH hd7;have hA:Below wr.heap.size wr (wr.alloc (.cells #[.slice A0 x.args.length k0,.slice A1 x.locals.length k1,.int .i64 x.ret.1,.int .i64 x.ret.2,.slice A4 x.code.length k4,.int .i64 x.depth,.int .i64 x.pot,.slice A7 x.phi.length k7] 53)):=(zb _ _).alloc (zn _) _;have hBr:B≤wr.heap.size:=Xd HB.out HX.out.size;have HXc:=zj HX hA;have HSa:=zH (hs0.below_to zc.keeps hA hBr);have HSl:=zH (hs1.below_to zc.keeps hA hBr);have hs4:=hs4.below_to qi.keeps hA hBr;have HSp:=zH (hs7.below_to zl.keeps hA hBr);have HB2:=zH (Xd hBr hA.size);have HBC:=zH (qr wr [.slice A0 x.args.length k0,.slice A1 x.locals.length k1,.int .i64 x.ret.1,.int .i64 x.ret.2,.slice A4 x.code.length k4,.int .i64 x.depth,.int .i64 x.pot,.slice A7 x.phi.length k7] 53);have HZ2:Hid (wr.heap.size<(wr.alloc (.cells #[.slice A0 x.args.length k0,.slice A1 x.locals.length k1,.int .i64 x.ret.1,.int .i64 x.ret.2,.slice A4 x.code.length k4,.int .i64 x.depth,.int .i64 x.pot,.slice A7 x.phi.length k7] 53)).heap.size):=zH (by simp);clear hd1 hd2 hd3 hd5 hd6 hd7 hA hBr hs0 hs1 hs7 hab;go_upto_region 13 with fail
         generalize wr.alloc (.cells #[.slice A0 x.args.length k0,.slice A1 x.locals.length k1,.int .i64 x.ret.1,.int .i64 x.ret.2,.slice A4 x.code.length k4,.int .i64 x.depth,.int .i64 x.pot,.slice A7 x.phi.length k7] 53)=w2 at*
         have HX2:Hid (Below w2.heap.size w2 w2):=zH (zb _ _);have HWX:=HXc;obtain⟨r0,r1,r2,r3,r4,r5,r6,r7⟩:=zY HBC.out;cases d1
         ·have E2:=zH (show zK m=false by unfold zK;rw[HNOT.out (by unfold qD;rw[D1.out];rfl)];simp);exact Yy
         ·cases d2
          ·have E2:=zH (show zK m=false by unfold zK;rw[HNOT.out (by unfold qD;rw[D1.out,D2.out];rfl)];simp);exact Yy
          ·cases d3
           ·have E2:=zH (show zK m=false by unfold zK;rw[HNOT.out (by unfold qD;rw[D1.out,D2.out,D3.out];rfl)];simp);exact Yy
           ·by_cases c4:(64:Int)<x.code.length
            ·have E2:=zH (show zK m=false by unfold zK;rw[HNOT.out (by unfold qD;rw[D1.out,D2.out,D3.out,Xg (p:=(x.code.length:Int)≤64) (by omega)];rfl)];simp);exact Yy
            cases d5
            ·have E2:=zH (show zK m=false by unfold zK;rw[HNOT.out (by unfold qD;rw[D1.out,D2.out,D3.out,Xm (p:=(x.code.length:Int)≤64) (by omega),D5.out];rfl)];simp);exact Yy
            ·cases d6
             ·have E2:=zH (show zK m=false by unfold zK;rw[HNOT.out (by unfold qD;rw[D1.out,D2.out,D3.out,Xm (p:=(x.code.length:Int)≤64) (by omega),D5.out,D6.out];rfl)];simp);exact Yy
             ·cases d7
              ·have E2:=zH (show zK m=false by unfold zK;rw[HNOT.out (by unfold qD;rw[D1.out,D2.out,D3.out,Xm (p:=(x.code.length:Int)≤64) (by omega),D5.out,D6.out,D7.out];rfl)];simp);exact Yy
              ·have HE4:=zH hs4;go_wp2_with(first|((first|(go_at_call 32;(with_reducible refine(JQ HSa HB2 HX2 D1).mono ?_))|(go_at_call 32;(with_reducible refine(JQ HSl HB2 HX2 D2).mono ?_))|(go_at_call 35;(with_reducible refine(qeb D3).mono ?_)));rintro e w' ⟨rfl,hb⟩;have HXc:=zj HXc hb;have HX2:=zj HX2 hb;obtain⟨r0,r1,r2,r3,r4,r5,r6,r7⟩:=zY (HBC.out.keep HX2.out HZ2.out);clear hb)|((first|(go_at_call 34;(with_reducible refine(vR D5).mono ?_))|(go_at_call 34;(with_reducible refine(vR D6).mono ?_))|(go_at_call 33;(with_reducible refine(VY HSp HB2 HX2 D7).mono ?_)));rintro e w' ⟨rfl,rfl⟩))
               go_loopw [7] (fun i wr=>∃j:Nat,j≤x.code.length∧i= .int .i64 j∧Hid (∀i ∈x.code.take j,qf i.1 i.2.1 i.2.2=true)∧Hid (Below w2.heap.size w2 wr)) (fun i _=>x.code.length - (intOf i).toNat)
               case atStart=>exact⟨0,by omega,rfl,zH (by simp),HX2⟩
               case round=>
                clear HX2 HXc r0 r1 r2 r3 r4 r5 r6 r7;obtain⟨j,hj,rfl,HM,HX3⟩:=hrel;obtain⟨r0,r1,r2,r3,r4,r5,r6,r7⟩:=zY (HBC.out.keep HX3.out HZ2.out);have bk1:=HE4.out.le;have bk2:=HE4.out.cap;by_cases hltj:j<x.code.length
                ·obtain⟨ad4,e4,hab4,t0,t1,t2⟩:=(HE4.out.below_to qi.keeps HX3.out HB2.out).row.at_ hltj;rw[e4]at r4;clear e4 hab4;have HCN:=zH (fun g:(fun i:Int×Int×Int=>qf i.1 i.2.1 i.2.2) x.code[j]=false=>(vK hltj g:q0l x.code=false));have HCY:=zH (fun g:(fun i:Int×Int×Int=>qf i.1 i.2.1 i.2.2) x.code[j]=true=>vH hltj HM.out g);generalize x.code[j]=ins at*
                 obtain⟨op,a,b⟩:=ins;dsimp only at t0 t1 t2;obtain⟨g,hg⟩:∃g,qf op a b=g:=⟨_,rfl⟩
                 have G:=zH hg;clear hg;cases g
                 ·have E2:=zH (show zK m=false by unfold zK;rw[HNOT.out (by unfold qD;rw[show q0l x.code=false from HCN.out G.out];simp)];simp);go_wp2_with(first|(go_at_call 36;(with_reducible refine(q9g op a b _).mono ?_);rintro e w' ⟨he,hb⟩;rw[G.out]at he;subst he;have HX3:=zj HX3 hb;clear hb))
                  go_ret;exact⟨by rw[E2.out];rfl,HW.out.trans ((HWX.out.trans (HX3.out.mono HWX.out.size)).mono HZ'.out)⟩
                 ·have HOK:=zH (HCY.out G.out);go_wp2_with(first|(go_at_call 36;(with_reducible refine(q9g op a b _).mono ?_);rintro e w' ⟨he,hb⟩;rw[G.out]at he;subst he;have HX3:=zj HX3 hb;clear hb))
                  go_roundw;case rel=>exact⟨j+1,by omega,by go_num,HOK,HX3⟩
                  case measure=>simp[intOf];omega
                ·have HCA:=zH (show q0l x.code=true from vL HM.out (by omega));have HOK:=zH (HYES.out (by unfold qD;rw[D1.out,D2.out,D3.out,D5.out,D6.out,D7.out,HCA.out,Xm (p:=(x.code.length:Int)≤64) (by omega)];rfl));have HXD:=zH (HWX.out.trans (HX3.out.mono HWX.out.size));go_wp2_with fail
                 go_roundw;case rel=>exact⟨k+1,by omega,by go_num,HOK,HXD⟩
                 case measure=>simp[intOf];omega
        ·have HMA:=zH (vL HN.out (show m.methods.length≤k by omega));have E2:=zH (show zK m=true by unfold zK;rw[HHD.out,HCA.out,HMA.out];rfl);go_wp2_with fail
         go_ret;exact⟨by rw[E2.out];rfl,HW.out.trans (HX.out.mono HZ'.out)⟩
theorem Qb{n a b:Int}:zP n a b=true↔a≤n∧n≤b:=by unfold zP;simp
theorem q91{t:Int×Int}(h:qd t=true):0≤t.1∧t.1≤5∧0≤t.2∧t.2≤7:=by
 have:=Xy h;omega
theorem q23{l:List (Int×Int)}{n:Int}(h:kC l n=true):(l.length:Int)≤n∧∀t ∈l,0≤t.1∧t.1≤5∧0≤t.2∧t.2≤7:=by
 have:=Xy h;exact⟨this.1,fun t ht=>q91 (this.2 t ht)⟩
theorem q4i{l:List Int}{n most:Int}(h:kh l n most=true):(l.length:Int)≤n∧∀t ∈l,0≤t∧t≤most:=Xy h
theorem qdv{l:List (Int×Int×Int)}(h:q0l l=true):∀i ∈l,qf i.1 i.2.1 i.2.2=true:=fun i hi=>Xx.mp h i hi
structure q7b(c:zJ):Prop where
 sup0: -1≤c.sup
 sup1:c.sup≤7
 fl:c.fields.length≤8
 ft:∀t ∈c.fields,0≤t.1∧t.1≤5∧0≤t.2∧t.2≤7
 sl:c.slots.length≤4
 st:∀t ∈c.slots,0≤t∧t≤11
theorem qet{c:zJ}(h:jk c=true):q7b c:=by
 unfold jk at h;simp only[Xr]at h;obtain⟨h1,h2,h3⟩:=h;have h1:=Qb.mp h1;have h2:=q23 h2;have h3:=q4i h3;exact⟨h1.1,h1.2,by omega,h2.2,by omega,h3.2⟩
structure q3q(x:zh):Prop where
 al:x.args.length≤4
 at_:∀t ∈x.args,0≤t.1∧t.1≤5∧0≤t.2∧t.2≤7
 ll:x.locals.length≤8
 lt:∀t ∈x.locals,0≤t.1∧t.1≤5∧0≤t.2∧t.2≤7
 rt:0≤x.ret.1∧x.ret.1≤5∧0≤x.ret.2∧x.ret.2≤7
 cl:x.code.length≤64
 ct:∀i ∈x.code,qf i.1 i.2.1 i.2.2=true
 d0:0≤x.depth
 d1:x.depth≤8
 p0:0≤x.pot
 p1:x.pot≤4096
 pl:x.phi.length≤64
 pt:∀t ∈x.phi,0≤t∧t≤4096
theorem qej{x:zh}(h:qD x=true):q3q x:=by
 unfold qD at h;simp only[Xr,Xt]at h;obtain⟨h1,h2,h3,h4,h5,h6,h7,h8⟩:=h;have h1:=q23 h1;have h2:=q23 h2;have h3:=q91 h3;have h5:=Qb.mp h5;have h6:=Qb.mp h6;have h7:=q4i h7;exact⟨by omega,h1.2,by omega,h2.2,h3,by omega,qdv h8,h5.1,h5.2,h6.1,h6.2,by omega,h7.2⟩
structure q79(m:za):Prop where
 cl:m.classes.length≤8
 ct:∀c ∈m.classes,q7b c
 sl:m.statics.length≤8
 st:∀t ∈m.statics,0≤t.1∧t.1≤5∧0≤t.2∧t.2≤7
 il:m.ints.length≤16
 ml:m.methods.length≤12
 mt:∀x ∈m.methods,q3q x
 el:m.entries.length≤12
 et:∀t ∈m.entries,0≤t∧t≤11
 k0:0≤m.stack
 k1:m.stack≤4096
 h0:0≤m.heap
 h1:m.heap≤4096
theorem Yb{m:za}(h:zK m=true):q79 m:=by
 unfold zK Ze at h;simp only[Xr,Xt]at h;obtain⟨⟨h1,h2,h3,h4,h5,h6,h7⟩,h8,h9⟩:=h;have h4:=q23 h4;have h5:=q4i h5;have h6:=Qb.mp h6;have h7:=Qb.mp h7;exact⟨by omega,fun c hc=>qet (Xx.mp h8 c hc),by omega,h4.2,by omega,by omega,fun x hx=>qej (Xx.mp h9 x hx),by omega,h5.2,h6.1,h6.2,h7.1,h7.2⟩
set_option maxHeartbeats 800000 in
theorem qi4(l m:List (Int×Int))(A A':Option Addr)(cap cap' B:Nat)(w:World)(hB:B≤w.heap.size)(h:ze zc 2 w B A cap l)(h':ze zc 2 w B A' cap' m):
  Calls Tryz.prog 168 #[.slice A l.length cap,.slice A' m.length cap'] w fun e w'=>e= .returned (.bool (decide (l=m)))∧Below w.heap.size w w':=by
 have hlc:=h.le;have hcm:=h.cap;have hlc':=h'.le;have hcm':=h'.cap;have HL:=zH h;have HM:=zH h';have HB:=zH hB;clear h h' hB;obtain⟨b,hb⟩:∃b,decide (l=m)=b:=⟨_,rfl⟩
 rw[hb];have E:=zH hb.symm;clear hb;by_cases hn:l.length=m.length
 ·have HLN:=zH hn;have hlen:m.length=l.length:=hn.symm;rw[hlen];clear hn;go_enter Tryz.func168,Tryz.ntmps168;go_wp2
  go_loopw [13] (fun i wr=>∃k:Nat,k≤l.length∧i= .int .i64 k∧Hid (l.take k=m.take k)∧Hid (Below w.heap.size w wr)) (fun i _=>l.length - (intOf i).toNat)
  case atStart=>exact⟨0,by omega,rfl,zH (by simp),zH (zb _ _)⟩
  case round=>
   obtain⟨k,hk,rfl,HN,HX⟩:=hrel;by_cases hlt:k<l.length
   ·have hltm:k<m.length:=by omega
    obtain⟨ad,rfl,hab,q0,q1⟩:=(HL.out.below_to zc.keeps HX.out HB.out).row.at_ hlt;obtain⟨ad',rfl,hab',p0,p1⟩:=(HM.out.below_to zc.keeps HX.out HB.out).row.at_ hltm;have HNE:=zH (fun g=>YF hlt hltm g);have HEQ:=zH (fun g=>YJ hlt hltm HN.out g);generalize l[k]=t at*
    generalize m[k]=s at*
    obtain⟨x,y⟩:=t;obtain⟨x',y'⟩:=s;dsimp only at q0 q1 p0 p1;by_cases hx:x=x'∧y=y'
    ·obtain⟨rfl,rfl⟩:=hx;have E2:=zH (HEQ.out rfl);go_wp2_with fail
     go_quiet (fail)
     go_wp2
     go_roundw;case rel=>exact⟨k+1,by omega,by go_num,E2,zH (qZ HX.out _)⟩
     case measure=>simp[intOf];omega
    ·have E2:=zH (show b=false by rw[E.out];exact Xg (HNE.out (by simpa using hx)));have hxx:¬x=x'∨(x=x'∧¬y=y'):=by omega
     clear hx;rcases hxx with hxx|⟨rfl,hxx⟩
     all_goals
      go_wp2_with fail
      go_quiet (fail)
      go_wp2
      go_ret;exact⟨by rw[E2.out];rfl,(qZ HX.out _)⟩
   ·have E2:=zH (show b=true by rw[E.out];exact Xm (Yw HLN.out k HN.out (by omega)));go_wp2_with fail
    go_ret;exact⟨by rw[E2.out];rfl,HX.out⟩
 ·have E2:=zH (show b=false by rw[E.out];exact Xg (fun g=>hn (by rw[g])));have hn':((l.length:Int)==(m.length:Int))=false:=XG.mpr (by omega);go_enter Tryz.func168,Tryz.ntmps168;go_wp2
  go_ret;exact⟨by rw[E2.out];rfl,zb _ _⟩
def jw(c:zJ):List Int:=zy (c.sup+1).toNat++(jo c.fields++jG c.slots)
def jp(i:Int×Int×Int):List Int:=vA i.1 i.2.1 i.2.2
def jT(n:Int):List Int:=zy (zig n).toNat
def jj(x:zh):List Int:=jo x.args++(jo x.locals++(qE x.ret++(zy x.code.length++(x.code.flatMap jp++(zy x.depth.toNat++(zy x.pot.toNat++jG x.phi))))))
def qG:List Int:=[112,108,105,109]
def va(m:za):List Int:=qG++(zy m.classes.length++(m.classes.flatMap jw++(jo m.statics++(zy m.ints.length++(m.ints.flatMap jT++(zy m.methods.length++(m.methods.flatMap jj++(jG m.entries++(zy m.stack.toNat++zy m.heap.toNat)))))))))
theorem JT{l:List (Int×Int)}(h:∀t ∈l,t.1≤9223372036854775807∧t.2≤9223372036854775807)(hl:l.length≤1000):(jo l).length≤9+18*l.length:=by
 unfold jo;rw[Xe];have:=vU (f:=qE) (c:=18) l fun t ht=>q1i (h t ht).1 (h t ht).2;have:=qF (n:=l.length) (by omega);omega
theorem VS{l:List Int}(h:∀t ∈l,t≤9223372036854775807)(hl:l.length≤1000):(jG l).length≤9+9*l.length:=by
 unfold jG;rw[Xe];have:=vU (f:=qV) (c:=9) l fun t ht=>qF (by have:=h t ht;omega);have:=qF (n:=l.length) (by omega);omega
theorem q5t{i:Int×Int×Int}(h:qf i.1 i.2.1 i.2.2=true):(jp i).length≤5:=(qs2 h).2
theorem q6i{c:zJ}(h:q7b c):(jw c).length≤250:=by
 have l1:=qF (n:=(c.sup+1).toNat) (by have:=h.sup1;omega);have l2:=JT (l:=c.fields) (fun t ht=>by have:=h.ft t ht;omega) (by have:=h.fl;omega);have l3:=VS (l:=c.slots) (fun t ht=>by have:=h.st t ht;omega) (by have:=h.sl;omega);have:=h.fl;have:=h.sl;unfold jw;simp only[Xe];omega
theorem q6h{x:zh}(h:q3q x):(jj x).length≤1500:=by
 have l1:=JT (l:=x.args) (fun t ht=>by have:=h.at_ t ht;omega) (by have:=h.al;omega);have l2:=JT (l:=x.locals) (fun t ht=>by have:=h.lt t ht;omega) (by have:=h.ll;omega);have l3:=q1i (t:=x.ret) (by have:=h.rt;omega) (by have:=h.rt;omega);have l4:=qF (n:=x.code.length) (by have:=h.cl;omega);have l5:=vU (f:=jp) (c:=5) x.code fun i hi=>q5t (h.ct i hi);have l6:=qF (n:=x.depth.toNat) (by have:=h.d1;omega);have l7:=qF (n:=x.pot.toNat) (by have:=h.p1;omega);have l8:=VS (l:=x.phi) (fun t ht=>by have:=h.pt t ht;omega) (by have:=h.pl;omega);have:=h.al;have:=h.ll;have:=h.cl;have:=h.pl;unfold jj;simp only[Xe];omega
def Pre{α:Type}(f:α→List Int)(ok:α→Prop):Prop:=∀x y r s,ok x→ok y→f x++r=f y++s→x=y∧r=s
theorem qb8:Pre (fun n:Nat=>zy n) (fun n=>n<34359738368):=fun x y r s hx hy h=>by
 have h1:=q4v r hx;have h2:=q4v s hy;dsimp only at h;rw[h]at h1;have e:=h1.symm.trans h2;have exy:x=y:=(Prod.mk.inj e).1;subst exy;exact⟨rfl,List.append_cancel_left h⟩
theorem QB{n m:Int}{r s:List Int}(h0:0≤n)(h1:n<34359738368)(g0:0≤m)(g1:m<34359738368)(h:zy n.toNat++r=zy m.toNat++s):n=m∧r=s:=by
 obtain⟨e,hr⟩:=qb8 n.toNat m.toNat r s (by omega) (by omega) h;exact⟨by omega,hr⟩
theorem qcx{α:Type}{f:α→List Int}{ok:α→Prop}(hf:Pre f ok):∀(l m:List α) (r s:List Int),l.length=m.length→(∀x ∈l,ok x)→(∀x ∈m,ok x)→l.flatMap f++r=m.flatMap f++s→l=m∧r=s
 | [],[],r,s,_,_,_,h=>⟨rfl,by simpa using h⟩
 |x::l,y::m,r,s,hl,ho,hp,h=>by
  rw[List.flatMap_cons,List.flatMap_cons,Xu,Xu]at h;obtain⟨e,h⟩:=hf x y _ _ (ho x XD) (hp y XD) h;obtain⟨e2,h⟩:=qcx hf l m r s (by simpa using hl) (fun z hz=>ho z (XF _ hz)) (fun z hz=>hp z (XF _ hz)) h;exact⟨by rw[e,e2],h⟩
 | [],_::_,_,_,hl,_,_,_=>by simp at hl
 |_::_,[],_,_,hl,_,_,_=>by simp at hl
theorem VZ{α:Type}{f:α→List Int}{ok:α→Prop}(hf:Pre f ok)(l m:List α)(r s:List Int)(hl:l.length≤10000)(hm:m.length≤10000)(ho:∀x ∈l,ok x)(hp:∀x ∈m,ok x)
  (h:zy l.length++(l.flatMap f++r)=zy m.length++(m.flatMap f++s)):l=m∧r=s:=by
 obtain⟨e,h⟩:=qb8 l.length m.length _ _ (by omega) (by omega) h;exact qcx hf l m r s e ho hp h
def OkT(t:Int×Int):Prop:=qd t=true
theorem pre_T:Pre qE OkT:=fun x y r s hx hy h=>by
 have bx:=Xy hx;have by_:=Xy hy;obtain⟨k,n⟩:=x;obtain⟨k',n'⟩:=y;dsimp only at bx by_;unfold qE at h;dsimp only at h;by_cases h3:k=3
 ·by_cases h3':k'=3
  ·subst h3 h3';rw[Xb rfl,Xb rfl,Xu,Xu]at h;have h:=List.append_cancel_left h;obtain⟨e,h⟩:=QB (by omega) (by omega) (by omega) (by omega) h;exact⟨by rw[e],h⟩
  ·subst h3;rw[Xb rfl,Xa h3',Xu]at h;obtain⟨e,_⟩:=QB (n:=3) (by omega) (by omega) (by omega) (by omega) h;omega
 ·by_cases h3':k'=3
  ·subst h3';rw[Xa h3,Xb rfl,Xu]at h;obtain⟨e,_⟩:=QB (m:=3) (by omega) (by omega) (by omega) (by omega) h;omega
  ·rw[Xa h3,Xa h3']at h;obtain⟨e,h⟩:=QB (by omega) (by omega) (by omega) (by omega) h;exact⟨by rw[e,show n=n' by omega],h⟩
def OkN(n:Int):Prop:=0≤n∧n≤4096
theorem pre_N:Pre qV OkN:=fun x y r s hx hy h=>by
 unfold OkN at hx hy;exact QB (by omega) (by omega) (by omega) (by omega) h
def OkI(i:Int×Int×Int):Prop:=qf i.1 i.2.1 i.2.2=true
theorem pre_I:Pre jp OkI:=fun x y r s hx hy h=>by
 have h1:=q3g r hx;have h2:=q3g s hy;unfold jp at h;rw[h]at h1;have e:=h1.symm.trans h2;simp only[Prod.mk.injEq]at e;obtain⟨⟨e0,e1,e2⟩,e3,_⟩:=e;exact⟨Prod.ext e0 (Prod.ext e1 e2),e3⟩
def OkL(n:Int):Prop:= -2147483648≤n∧n≤2147483647
theorem pre_L:Pre jT OkL:=fun x y r s hx hy h=>by
 have hx1:=q0c hx.1 hx.2;have hy1:=q0c hy.1 hy.2;have hx0:=q7c (n:=x);have hy0:=q7c (n:=y);obtain⟨e,h⟩:=QB (by omega) (by omega) (by omega) (by omega) h;exact⟨by rw[←q6n x,e,q6n],h⟩
theorem q3r{l m:List (Int×Int)}{r s:List Int}(hl:l.length≤10000)(hm:m.length≤10000)(ho:∀x ∈l,OkT x)(hp:∀x ∈m,OkT x)(h:jo l++r=jo m++s):l=m∧r=s:=by
 unfold jo at h;rw[Xu,Xu]at h;exact VZ pre_T l m r s hl hm ho hp h
theorem q7g{l m:List Int}{r s:List Int}(hl:l.length≤10000)(hm:m.length≤10000)(ho:∀x ∈l,OkN x)(hp:∀x ∈m,OkN x)(h:jG l++r=jG m++s):l=m∧r=s:=by
 unfold jG at h;rw[Xu,Xu]at h;exact VZ pre_N l m r s hl hm ho hp h
def OkC(c:zJ):Prop:=jk c=true
theorem okC{c:zJ}(h:OkC c): -1≤c.sup∧c.sup≤7∧c.fields.length≤8∧(∀t ∈c.fields,OkT t)∧c.slots.length≤4∧∀n ∈c.slots,OkN n:=by
 have hf:=qet h;unfold OkC jk at h;simp only[Xr]at h;have h2:=(Xy h.2.1:_∧_).2;exact⟨hf.sup0,hf.sup1,hf.fl,h2,hf.sl,fun n hn=>by have:=hf.st n hn;unfold OkN;omega⟩
theorem pre_C:Pre jw OkC:=fun x y r s hx hy h=>by
 obtain⟨a0,a1,a2,a3,a4,a5⟩:=okC hx;obtain⟨b0,b1,b2,b3,b4,b5⟩:=okC hy;unfold jw at h;simp only[Xu]at h;obtain⟨e0,h⟩:=QB (by omega) (by omega) (by omega) (by omega) h;obtain⟨e1,h⟩:=q3r (by omega) (by omega) a3 b3 h;obtain⟨e2,hz⟩:=q7g (by omega) (by omega) a5 b5 h;obtain⟨p,q,u⟩:=x;obtain⟨p',q',u'⟩:=y;dsimp only at e0 e1 e2;refine⟨?_,hz⟩;rw[e1,e2,show p=p' by omega]
def OkM(x:zh):Prop:=qD x=true
theorem okM{x:zh}(h:OkM x):(x.args.length≤4∧∀t ∈x.args,OkT t)∧(x.locals.length≤8∧∀t ∈x.locals,OkT t)∧OkT x.ret∧(x.code.length≤64∧∀i ∈x.code,OkI i)∧(0≤x.depth∧x.depth≤8)∧(0≤x.pot∧x.pot≤4096)∧(x.phi.length≤64∧∀n ∈x.phi,OkN n):=by
 have hf:=qej h;unfold OkM qD at h;simp only[Xr]at h;obtain⟨h1,h2,h3,_⟩:=h;exact⟨⟨hf.al,(Xy h1:_∧_).2⟩,⟨hf.ll,(Xy h2:_∧_).2⟩,h3,⟨hf.cl,hf.ct⟩,⟨hf.d0,hf.d1⟩,⟨hf.p0,hf.p1⟩,hf.pl,fun n hn=>hf.pt n hn⟩
theorem pre_M:Pre jj OkM:=fun x y r s hx hy h=>by
 obtain⟨⟨a0,a1⟩,⟨a2,a3⟩,a4,⟨a5,a6⟩,⟨a7,a8⟩,⟨a9,aa⟩,ab,ac⟩:=okM hx;obtain⟨⟨b0,b1⟩,⟨b2,b3⟩,b4,⟨b5,b6⟩,⟨b7,b8⟩,⟨b9,ba⟩,bb,bc⟩:=okM hy;unfold jj at h;simp only[Xu]at h;obtain⟨e0,h⟩:=q3r (by omega) (by omega) a1 b1 h;obtain⟨e1,h⟩:=q3r (by omega) (by omega) a3 b3 h;obtain⟨e2,h⟩:=pre_T _ _ _ _ a4 b4 h;obtain⟨e3,h⟩:=VZ pre_I _ _ _ _ (by omega) (by omega) a6 b6 h;obtain⟨e4,h⟩:=QB (by omega) (by omega) (by omega) (by omega) h;obtain⟨e5,h⟩:=QB (by omega) (by omega) (by omega) (by omega) h;obtain⟨e6,hz⟩:=q7g (by omega) (by omega) ac bc h;obtain⟨x0,x1,x2,x3,x4,x5,x6⟩:=x;obtain⟨y0,y1,y2,y3,y4,y5,y6⟩:=y;dsimp only at e0 e1 e2 e3 e4 e5 e6;exact⟨by rw[e0,e1,e2,e3,e4,e5,e6],hz⟩
def ZT(m:za):Prop:=zK m=true∧∀n ∈m.ints,OkL n
theorem qup:Pre va ZT:=fun x y r s hx hy h=>by
 have fx:=Yb hx.1;have fy:=Yb hy.1;have hx1:=hx.1;have hy1:=hy.1;unfold zK Ze at hx1 hy1;simp only[Xr]at hx1 hy1;obtain⟨⟨_,_,_,sx,_⟩,cx,mx⟩:=hx1;obtain⟨⟨_,_,_,sy,_⟩,cy,my⟩:=hy1;have sx:=(Xy sx:_∧_).2;have sy:=(Xy sy:_∧_).2;have cx:=Xx.mp cx;have cy:=Xx.mp cy;have mx:=Xx.mp mx;have my:=Xx.mp my;have:=fx.cl;have:=fx.sl;have:=fx.il;have:=fx.ml;have:=fx.el;have:=fx.k0;have:=fx.k1;have:=fx.h0;have:=fx.h1;have:=fy.cl;have:=fy.sl;have:=fy.il;have:=fy.ml;have:=fy.el;have:=fy.k0;have:=fy.k1;have:=fy.h0;have:=fy.h1;unfold va at h;simp only[Xu]at h;have h:=List.append_cancel_left h;obtain⟨e0,h⟩:=VZ pre_C _ _ _ _ (by omega) (by omega) cx cy h;obtain⟨e1,h⟩:=q3r (by omega) (by omega) sx sy h;obtain⟨e2,h⟩:=VZ pre_L _ _ _ _ (by omega) (by omega) hx.2 hy.2 h;obtain⟨e3,h⟩:=VZ pre_M _ _ _ _ (by omega) (by omega) mx my h;obtain⟨e4,h⟩:=q7g (by omega) (by omega) (fun n hn=>by have:=fx.et n hn;unfold OkN;omega) (fun n hn=>by have:=fy.et n hn;unfold OkN;omega) h;obtain⟨e5,h⟩:=QB (by omega) (by omega) (by omega) (by omega) h;obtain⟨e6,hz⟩:=QB (by omega) (by omega) (by omega) (by omega) h;obtain⟨x0,x1,x2,x3,x4,x5,x6⟩:=x;obtain⟨y0,y1,y2,y3,y4,y5,y6⟩:=y;dsimp only at e0 e1 e2 e3 e4 e5 e6;exact⟨by rw[e0,e1,e2,e3,e4,e5,e6],hz⟩
theorem qli{x y:za}(hx:ZT x)(hy:ZT y)(h:va x=va y):x=y:=
 (qup x y [] [] hx hy (by rw[h])).1
def At3(w:World)(p:Addr)(x y z:Value):Prop:=w.cell? p=some x∧w.cell? (zf p 1)=some y∧w.cell? (zf p 2)=some z
theorem At3.keep{w w':World}{p:Addr}{x y z:Value}{B:Nat}(h:At3 w p x y z)(hb:Below B w w')(hp:p.block<B):At3 w' p x y z:=
 ⟨(hb.cell hp).trans h.1,(hb.cell (p:=zf p 1) hp).trans h.2.1,(hb.cell (p:=zf p 2) hp).trans h.2.2⟩
theorem zW.grown{w w':World}{N g:Nat}{vs:List Value}(H:zW w N vs)(hg:w.grownBy w' (some g))(hN:N<w.heap.size)(hne:¬g=N):zW w' N vs:=fun i v h=>by
 obtain⟨_,_,_,_,hb⟩:=hg;have e:=hb N hN (fun x=>hne (by have h:=x;simp at h;omega));exact(XX (w:=w) (a:=⟨N,i,none⟩) e).trans (H i v h)
theorem qtf{w:World}{B e s n:Nat}{v:Value}{xs:List Value}(h:w.ownsRow B e s v n xs):w.drew.ownsRow B e s v n xs:=h
theorem own_n{w:World}{B e n:Nat}{v:Value}{l:List Int}(h:w.ownsRow B e 1 v n (l.map (Value.int .u8))):n=l.length:=by
 have:=h.1;simp at this;omega
theorem qoe{w:World}{B e n:Nat}{v:Value}{l l':List Int}(h:w.ownsRow B e 1 v n (l.map (Value.int .u8)))(e':l=l'):w.ownsRow B e 1 v l'.length (l'.map (Value.int .u8)):=by
 have hn:=own_n h;subst e' hn;exact h
theorem QZ{g g6 N:Nat}{w:World}{n c:Nat}(hor:(Value.slice (some ⟨g,0,none⟩) n c).ownBlock=some g6∨g6=w.heap.size)(hg:¬g=N)(hN:N<w.heap.size):¬g6=N:=by
 rcases hor with h|h
 ·have:g=g6:=by simpa[Value.ownBlock]using h
  omega
 ·omega
abbrev plimO:Obj:= .cells #[.int .u8 112,.int .u8 108,.int .u8 105,.int .u8 109] 5
abbrev vY:Obj:= .cells #[.int .u8 112,.int .u8 108,.int .u8 105,.int .u8 109] 5 (4,5)
theorem q5g(w:World)(N:Nat)(hN:w.heap.size=N):(convert 40 40 (.slice (some ⟨N,0,none⟩) 4 4)).run Tryz.prog (w.alloc plimO)= .ok (.slice (some ⟨N,0,none⟩) 4 4) (w.alloc vY):=by
 subst hN;exact Lib.run_convert_bytes_const (P:=Tryz.prog) w 40 5 _ 4 4 Tryz.underlying40 Tryz.underlying5
theorem q9m(w:World):∀j u,(qG.map (Value.int .u8))[j]? =some u→(w.alloc vY).cell? ((⟨w.heap.size,0,none⟩:Addr).add j)=some u:=by
 intro j u hj;have e:(Addr.add ⟨w.heap.size,0,none⟩ j)=⟨w.heap.size,j,none⟩:=by
  unfold Addr.add;split
  ·rename_i h0;subst h0;rfl
  ·simp
 have hh:(w.alloc vY).heap[w.heap.size]? =some vY:=Xw w _;rw[e];simp only[World.cell?,hh]
 match j,hj with
 |0,hj=>simp[qG]at hj;subst hj;rfl
 |1,hj=>simp[qG]at hj;subst hj;rfl
 |2,hj=>simp[qG]at hj;subst hj;rfl
 |3,hj=>simp[qG]at hj;subst hj;rfl
 |j+4,hj=>simp[qG]at hj
theorem Qu{w:World}{B:Nat}{ad:Addr}{xs:List Value}(h:zq w B (some ad) xs):∀j u,xs[j]? =some u→w.cell? (ad.add j)=some u:=fun j u hj=>by
 obtain⟨a,e,_,hc⟩:=h j u hj;injection e with e;subst e;exact hc
theorem Qt{w:World}{B e:Nat}{v:Value}{l:List Int}(h:w.ownsRow B e 1 v l.length (l.map (Value.int .u8)))(hl:0<l.length):
  ∃g cap,v= .slice (some ⟨g,0,none⟩) l.length cap∧zq w w.heap.size (some ⟨g,0,none⟩) (l.map (Value.int .u8)):=by
 obtain⟨g,cap,rfl,_,_,_,_,hL⟩:=q5i h hl;exact⟨g,cap,rfl,hL⟩
def jv:za:=⟨[],[],[],[],[],0,0⟩
def Yq(l:List Int)(m:za)(er:Int):Prop:=
 (er=0∧zK m=true∧va m=l∧l.length≤8192)∨(er=2∧m=jv∧∀m',ZT m'→va m'=l→8192<l.length)
theorem qv9{m x:za}{er:Int}(hm:ZT m)(hl:¬8192<(va m).length)(hx:∀n ∈x.ints,OkL n)(h:Yq (va m) x er):er=0∧x=m:=by
 rcases h with⟨h1,h2,h3,h4⟩|⟨h1,h2,h3⟩
 ·exact⟨h1,qli ⟨h2,hx⟩ hm h3⟩
 ·exact absurd (h3 m hm rfl) hl
theorem qgp(m:za):∀b ∈va m,0≤b∧b≤255:=by
 have hT:∀t,∀b ∈qE t,0≤b∧b≤255:=fun t b hb=>by
  unfold qE at hb;split at hb
  ·rcases Xn.mp hb with g|g<;>exact vE _ b g
  ·exact vE _ b hb
 have hTs:∀l,∀b ∈jo l,0≤b∧b≤255:=fun l b hb=>by
  unfold jo at hb;rcases Xn.mp hb with g|g
  ·exact vE _ b g
  ·obtain⟨t,_,g⟩:=List.mem_flatMap.mp g;exact hT t b g
 have hNs:∀l,∀b ∈jG l,0≤b∧b≤255:=fun l b hb=>by
  unfold jG at hb;rcases Xn.mp hb with g|g
  ·exact vE _ b g
  ·obtain⟨t,_,g⟩:=List.mem_flatMap.mp g;exact vE _ b g
 have hC:∀c,∀b ∈jw c,0≤b∧b≤255:=fun c b hb=>by
  unfold jw at hb;rcases Xn.mp hb with g|g
  ·exact vE _ b g
  ·rcases Xn.mp g with g|g
   ·exact hTs _ b g
   ·exact hNs _ b g
 have hM:∀x,∀b ∈jj x,0≤b∧b≤255:=fun x b hb=>by
  unfold jj at hb;simp only[Xn,List.mem_flatMap]at hb;rcases hb with g|g|g|g|⟨i,_,g⟩|g|g|g
  ·exact hTs _ b g
  ·exact hTs _ b g
  ·exact hT _ b g
  ·exact vE _ b g
  ·exact qjj _ _ _ b g
  ·exact vE _ b g
  ·exact vE _ b g
  ·exact hNs _ b g
 intro b hb;unfold va at hb;simp only[Xn,List.mem_flatMap]at hb;rcases hb with g|g|⟨c,_,g⟩|g|g|⟨c,_,g⟩|g|⟨c,_,g⟩|g|g|g
 ·simp[qG]at g;omega
 ·exact vE _ b g
 ·exact hC _ b g
 ·exact hTs _ b g
 ·exact vE _ b g
 ·exact vE _ b g
 ·exact vE _ b g
 ·exact hM _ b g
 ·exact hNs _ b g
 ·exact vE _ b g
 ·exact vE _ b g
theorem qlg(m:za):4<(va m).length:=by
 have:=kp m.classes.length;unfold va qG;simp only[Xe,XJ,List.length_nil];omega
theorem q7l{w:World}{B:Nat}{h:zi}{m:za}(H:zm w B h m):∀n ∈m.ints,OkL n:=fun n hn=>by
 obtain⟨i,hi⟩:=List.getElem?_of_mem hn;obtain⟨_,_,_,_,b0,b1⟩:=H.ints.row i n hi;exact⟨b0,b1⟩
theorem qlh{m:za}(h:ZT m):(va m).length≤30000:=by
 have F:=Yb h.1;have l0:=qF (n:=m.classes.length) (by have:=F.cl;omega);have l1:=vU (f:=jw) (c:=250) m.classes fun c hc=>q6i (F.ct c hc);have l2:=JT (l:=m.statics) (fun t ht=>by have:=F.st t ht;omega) (by have:=F.sl;omega);have l3:=qF (n:=m.ints.length) (by have:=F.il;omega);have l4:=vU (f:=jT) (c:=9) m.ints fun n hn=>qF (by have:=h.2 n hn;have:=q0c this.1 this.2;omega);have l5:=qF (n:=m.methods.length) (by have:=F.ml;omega);have l6:=vU (f:=jj) (c:=1500) m.methods fun x hx=>q6h (F.mt x hx);have l7:=VS (l:=m.entries) (fun t ht=>by have:=F.et t ht;omega) (by have:=F.el;omega);have l8:=qF (n:=m.stack.toNat) (by have:=F.k1;omega);have l9:=qF (n:=m.heap.toNat) (by have:=F.h1;omega);have:=F.cl;have:=F.sl;have:=F.il;have:=F.ml;have:=F.el;unfold va qG;simp only[Xe,XJ,List.length_nil];omega
def Bts(l:List Int):Prop:=l.length≤1048576∧∀b ∈l,0≤b∧b≤255
def zD{α:Type}(enc:α→List Int)(ok:α→Prop)(rest:List Int)(bad:Bool)(x:α)(rest':List Int)(bad':Bool):Prop:=
 Bts rest'∧(bad'=false→bad=false∧rest=enc x++rest')∧∀y r,bad=false→ok y→rest=enc y++r→bad'=false∧x=y∧rest'=r
theorem qtu{a l:List Int}(h:Bts (a++l)):Bts l:=⟨by have:=h.1;simp at this;omega,fun b hb=>h.2 b (List.mem_append_right _ hb)⟩
theorem qby{rest rest':List Int}{bad bad':Bool}{n most:Int}(hb:Bts rest)(hm:0≤most)(hm2:most≤34359738367)(h:qc rest bad most=(n,rest',bad')):
  0≤n∧n≤most∧zD qV (fun n=>0≤n∧n≤most) rest bad n rest' bad':=by
 have hr:=q9y rest bad most hm;rw[h]at hr;refine⟨hr.1,hr.2,?_,fun hb'=> ?_,fun y r h0 hy hr'=> ?_⟩
 ·obtain⟨n1,r1,b1,h1,h2,h3⟩:=q5p (rest:=rest) (bad:=bad) (most:=most) hb.1 hb.2;rw[h]at h1;simp only[Prod.mk.injEq]at h1;obtain⟨rfl,rfl,rfl⟩:=h1;exact⟨h2,h3⟩
 ·subst hb';cases bad
  ·exact⟨rfl,(q3f hb.2 h).1⟩
  ·rw[q1h]at h;simp at h
 ·subst h0 hr';have e:=q3n (n:=y) (most:=most) r hy.1 hy.2 hm2;rw[show qV y++r=zy y.toNat++r from rfl,e]at h;simp only[Prod.mk.injEq]at h;exact⟨h.2.2.symm,h.1.symm,h.2.1.symm⟩
theorem qt3(rest:List Int):(vC rest true).2.2=true:=by
 unfold vC;simp only[q1h];split<;>split<;>simp_all [q1h]
theorem qpg{rest:List Int}{bad:Bool}{op a b:Int}(hb:Bts rest)(h:(vC rest bad).2.2=false→(vC rest bad).1=(op,a,b)):
  ∃rest',zD jp (fun i=>qf i.1 i.2.1 i.2.2=true) rest bad (op,a,b) rest' (vC rest bad).2.2∧((vC rest bad).2.2=false→rest'=(vC rest bad).2.1):=by
 obtain⟨g,hg⟩:∃g,vC rest bad=g:=⟨_,rfl⟩
 obtain⟨x,r,b'⟩:=g;rw[hg]at h;rw[hg];dsimp only at h⊢
 cases b'
 ·obtain rfl:=h rfl;have hbad:bad=false:=by
   cases bad
   ·rfl
   ·have:=qt3 rest;rw[hg]at this;cases this
  subst hbad;have e:=(qph hb.2 hg).1;refine⟨r,⟨qtu (a:=vA op a b) (by rw[←e];exact hb),fun _=>⟨rfl,e⟩,fun y r' _ hy he=> ?_⟩,fun _=>rfl⟩;have e2:=q3g r' hy;rw[show vA y.1 y.2.1 y.2.2=jp y from rfl,←he,hg]at e2;simp only[Prod.mk.injEq]at e2;exact⟨rfl,by rw[Prod.ext_iff,Prod.ext_iff];exact e2.1,e2.2.1⟩
 ·refine⟨[],⟨⟨by simp,by simp⟩,fun hx=>by(cases hx),fun y r' hbad hy he=> ?_⟩,fun hx=>by(cases hx)⟩;subst hbad;have e2:=q3g r' hy;rw[show vA y.1 y.2.1 y.2.2=jp y from rfl,←he,hg]at e2;simp at e2
section
variable{α β:Type}{e1:α→List Int}{o1:α→Prop}{e2:β→List Int}{o2:β→Prop}{rest r1 r2:List Int}{bad b1 b2:Bool}{x:α}{y:β}
theorem zD.seq(h1:zD e1 o1 rest bad x r1 b1)(h2:zD e2 o2 r1 b1 y r2 b2):zD (fun p:α×β=>e1 p.1++e2 p.2) (fun p=>o1 p.1∧o2 p.2) rest bad (x,y) r2 b2:=by
 refine⟨h2.1,fun hb=> ?_,fun z r hb ho he=> ?_⟩
 ·obtain⟨g1,g2⟩:=h2.2.1 hb;obtain⟨g3,g4⟩:=h1.2.1 g1;exact⟨g3,by rw[g4,g2,Xu]⟩
 ·obtain⟨g1,g2,g3⟩:=h1.2.2 z.1 (e2 z.2++r) hb ho.1 (by rw[he,Xu]);obtain⟨g4,g5,g6⟩:=h2.2.2 z.2 r g1 ho.2 g3;exact⟨g4,by rw[g2,g5],g6⟩
theorem zD.map(f:α→β)(h:zD e1 o1 rest bad x r1 b1)(he:e2 (f x)=e1 x)(ho:∀z,o2 z→∃y,o1 y∧f y=z∧e2 z=e1 y):zD e2 o2 rest bad (f x) r1 b1:=by
 refine⟨h.1,fun hb=> ?_,fun z r hb hz hr=> ?_⟩
 ·obtain⟨g1,g2⟩:=h.2.1 hb;exact⟨g1,by rw[g2,he]⟩
 ·obtain⟨y,h1,h2,h3⟩:=ho z hz;obtain⟨g1,g2,g3⟩:=h.2.2 y r hb h1 (by rw[hr,h3]);exact⟨g1,by rw[g2,h2],g3⟩
theorem zD.ls_nil(hb:Bts rest):zD (fun l:List α=>l.flatMap e1) (fun l=>l.length=0∧∀y ∈l,o1 y) rest bad [] rest bad:=
 ⟨hb,fun h=>⟨h,by simp⟩,fun z r h hz hr=>by
  obtain rfl:z=[]:=X6 hz.1;exact⟨h,rfl,by simpa using hr⟩⟩
theorem zD.ls_snoc{xs:List α}{k:Nat}(h1:zD (fun l:List α=>l.flatMap e1) (fun l=>l.length=k∧∀y ∈l,o1 y) rest bad xs r1 b1)(h2:zD e1 o1 r1 b1 x r2 b2):
  zD (fun l:List α=>l.flatMap e1) (fun l=>l.length=k+1∧∀y ∈l,o1 y) rest bad (xs++[x]) r2 b2:=by
 refine⟨h2.1,fun hb=> ?_,fun z r hb hz hr=> ?_⟩
 ·obtain⟨g1,g2⟩:=h2.2.1 hb;obtain⟨g3,g4⟩:=h1.2.1 g1;exact⟨g3,by rw[g4,g2];simp⟩
 ·have hne:z≠ []:=fun e=>by have:=hz.1;rw[e]at this;simp at this
  have hz':=List.dropLast_concat_getLast hne;generalize z.dropLast=z0 at*
  generalize z.getLast hne=y at*
  subst hz';obtain⟨g1,g2,g3⟩:=h1.2.2 z0 (e1 y++r) hb ⟨by have:=hz.1;simp at this;omega,fun w hw=>hz.2 w (List.mem_append_left _ hw)⟩ (by rw[hr];simp);obtain⟨g4,g5,g6⟩:=h2.2.2 y r g1 (hz.2 y (by simp)) g3;exact⟨g4,by rw[g2,g5],g6⟩
theorem zD.ls_end{n most:Int}{xs:List α}{k:Nat}(hn0:0≤n)(hk:k=n.toNat)(hxk:xs.length=k)(h1:zD qV (fun n=>0≤n∧n≤most) rest bad n r1 b1)(h2:zD (fun l:List α=>l.flatMap e1) (fun l=>l.length=k∧∀y ∈l,o1 y) r1 b1 xs r2 b2):
  zD (fun l:List α=>zy l.length++l.flatMap e1) (fun l=>(l.length:Int)≤most∧∀y ∈l,o1 y) rest bad xs r2 b2:=by
 refine⟨h2.1,fun hb=> ?_,fun z r hb hz hr=> ?_⟩
 ·obtain⟨g1,g2⟩:=h2.2.1 hb;obtain⟨g3,g4⟩:=h1.2.1 g1;exact⟨g3,by rw[g4,g2];dsimp only;rw[hxk,hk,Xu]⟩
 ·obtain⟨g1,g2,g3⟩:=h1.2.2 (z.length:Int) (z.flatMap e1++r) hb ⟨by omega,hz.1⟩ (by rw[hr,Xu];rfl);obtain⟨g4,g5,g6⟩:=h2.2.2 z r g1 ⟨by rw[hk,g2];simp,hz.2⟩ g3;exact⟨g4,g5,g6⟩
end
theorem zD.ty3{rest r1 r2:List Int}{bad b1 b2:Bool}{m:Int}(h1:zD qV (fun n=>0≤n∧n≤5) rest bad 3 r1 b1)(h2:zD qV (fun n=>0≤n∧n≤7) r1 b1 m r2 b2):
  zD qE (fun t=>qd t=true) rest bad (3,m) r2 b2:=by
 refine⟨h2.1,fun hb=> ?_,fun z r hb hz hr=> ?_⟩
 ·obtain⟨g1,g2⟩:=h2.2.1 hb;obtain⟨g3,g4⟩:=h1.2.1 g1;exact⟨g3,by rw[g4,g2,show qE (3,m)=zy 3++zy m.toNat from Xb rfl,Xu];rfl⟩
 ·have hz':=Xy hz;by_cases h3:z.1=3
  ·rw[show qE z=zy 3++zy z.2.toNat from Xb h3,Xu]at hr;obtain⟨g1,g2,g3⟩:=h1.2.2 3 (zy z.2.toNat++r) hb (by omega) hr;obtain⟨g4,g5,g6⟩:=h2.2.2 z.2 r g1 (by omega) g3;exact⟨g4,by rw[Prod.ext_iff];exact⟨h3.symm,g5⟩,g6⟩
  ·rw[show qE z=zy z.1.toNat from Xa h3]at hr;obtain⟨g1,g2,g3⟩:=h1.2.2 z.1 r hb (by omega) hr;exact absurd g2.symm h3
theorem zD.ty0{rest r1:List Int}{bad b1:Bool}{n:Int}(hn:¬n=3)(h1:zD qV (fun n=>0≤n∧n≤5) rest bad n r1 b1):zD qE (fun t=>qd t=true) rest bad (n,0) r1 b1:=by
 refine⟨h1.1,fun hb=> ?_,fun z r hb hz hr=> ?_⟩
 ·obtain⟨g3,g4⟩:=h1.2.1 hb;exact⟨g3,by rw[g4,show qE (n,0)=zy n.toNat from Xa hn]⟩
 ·have hz':=Xy hz;by_cases h3:z.1=3
  ·rw[show qE z=zy 3++zy z.2.toNat from Xb h3,Xu]at hr;obtain⟨g1,g2,g3⟩:=h1.2.2 3 (zy z.2.toNat++r) hb (by omega) hr;exact absurd g2 hn
  ·rw[show qE z=zy z.1.toNat from Xa h3]at hr;obtain⟨g1,g2,g3⟩:=h1.2.2 z.1 r hb (by omega) hr;exact⟨g1,by rw[Prod.ext_iff];exact⟨g2,by dsimp only;omega⟩,g3⟩
theorem zD.long{rest r1:List Int}{bad b1:Bool}{n:Int}(h0:0≤n)(h1:zD qV (fun n=>0≤n∧n≤4294967295) rest bad n r1 b1):zD jT OkL rest bad (zag n) r1 b1:=
 h1.map zag (by unfold jT;rw[qud h0]) fun z hz=>⟨zig z,⟨q7c,q0c hz.1 hz.2⟩,q6n z,rfl⟩
abbrev q42(l:List (Int×Int)):List Int:=zy l.length++l.flatMap qE
abbrev q7p(l:List Int):List Int:=zy l.length++l.flatMap qV
theorem zD.cls{rest r0 r1 r2:List Int}{bad b0 b1 b2:Bool}{n:Int}{f:List (Int×Int)}{s:List Int}(hn:0≤n)(h0:zD qV (fun n=>0≤n∧n≤8) rest bad n r0 b0)
  (h1:zD q42 (fun l=>(l.length:Int)≤8∧∀t ∈l,qd t=true) r0 b0 f r1 b1) (h2:zD q7p (fun l=>(l.length:Int)≤4∧∀t ∈l,0≤t∧t≤11) r1 b1 s r2 b2):
  zD jw (fun c=>jk c=true) rest bad ⟨n - 1,f,s⟩ r2 b2:=
 (h0.seq (h1.seq h2)).map (fun p=>zJ.mk (p.1 - 1) p.2.1 p.2.2) (by unfold jw jo jG;dsimp only;rw[show n - 1+1=n by omega]) fun z hz=>by
  obtain⟨sup,f,s⟩:=z;unfold jk at hz;simp only[Xr]at hz;obtain⟨z1,z2,z3⟩:=hz;have z1:=Qb.mp z1;have z2:(f.length:Int)≤8∧∀t ∈f,qd t=true:=Xy z2;have z3:(s.length:Int)≤4∧∀x ∈s,0≤x∧x≤11:=Xy z3;exact⟨(sup+1,f,s),⟨⟨by dsimp only;omega,by dsimp only;omega⟩,z2,z3⟩,by simp,rfl⟩
abbrev encCl(l:List (Int×Int×Int)):List Int:=zy l.length++l.flatMap jp
theorem zD.mth{r0 r1 r2 r3 r4 r5 r6 r7:List Int}{b0 b1 b2 b3 b4 b5 b6 b7:Bool}{a l:List (Int×Int)}{t:Int×Int}{c:List (Int×Int×Int)}{d p:Int}{f:List Int}
  (h0:zD q42 (fun l=>(l.length:Int)≤4∧∀t ∈l,qd t=true) r0 b0 a r1 b1) (h1:zD q42 (fun l=>(l.length:Int)≤8∧∀t ∈l,qd t=true) r1 b1 l r2 b2)
  (h2:zD qE (fun t=>qd t=true) r2 b2 t r3 b3) (h3:zD encCl (fun l=>(l.length:Int)≤64∧∀i ∈l,qf i.1 i.2.1 i.2.2=true) r3 b3 c r4 b4)
  (h4:zD qV (fun n=>0≤n∧n≤8) r4 b4 d r5 b5) (h5:zD qV (fun n=>0≤n∧n≤4096) r5 b5 p r6 b6) (h6:zD q7p (fun l=>(l.length:Int)≤64∧∀t ∈l,0≤t∧t≤4096) r6 b6 f r7 b7):
  zD jj (fun x=>qD x=true) r0 b0 ⟨a,l,t,c,d,p,f⟩ r7 b7:=
 (h0.seq (h1.seq (h2.seq (h3.seq (h4.seq (h5.seq h6)))))).map (fun q=>zh.mk q.1 q.2.1 q.2.2.1 q.2.2.2.1 q.2.2.2.2.1 q.2.2.2.2.2.1 q.2.2.2.2.2.2) (by unfold jj jo jG;dsimp only;simp only[Xu]) fun z hz=>by
  obtain⟨a,l,t,c,d,p,f⟩:=z;unfold qD at hz;simp only[Xr,Xt]at hz;obtain⟨z1,z2,z3,z4,z5,z6,z7,z8⟩:=hz;exact⟨(a,l,t,c,d,p,f),⟨Xy z1,Xy z2,z3,⟨z4,qdv z8⟩,Qb.mp z5,Qb.mp z6,Xy z7⟩,rfl,by unfold jj jo jG;dsimp only;simp only[Xu]⟩
def Js(m:za):List Int:=zy m.classes.length++(m.classes.flatMap jw++(jo m.statics++(zy m.ints.length++(m.ints.flatMap jT++(zy m.methods.length++(m.methods.flatMap jj++(jG m.entries++(zy m.stack.toNat++zy m.heap.toNat))))))))
theorem q4m(m:za):va m=qG++Js m:=rfl
theorem zD.img{r0 r1 r2 r3 r4 r5 r6 r7:List Int}{b0 b1 b2 b3 b4 b5 b6 b7:Bool}{cl:List zJ}{st:List (Int×Int)}{it:List Int}{me:List zh}{en:List Int}{k h:Int}
  (h0:zD (fun l:List zJ=>zy l.length++l.flatMap jw) (fun l=>(l.length:Int)≤8∧∀c ∈l,jk c=true) r0 b0 cl r1 b1) (h1:zD q42 (fun l=>(l.length:Int)≤8∧∀t ∈l,qd t=true) r1 b1 st r2 b2)
  (h2:zD (fun l:List Int=>zy l.length++l.flatMap jT) (fun l=>(l.length:Int)≤16∧∀n ∈l,OkL n) r2 b2 it r3 b3) (h3:zD (fun l:List zh=>zy l.length++l.flatMap jj) (fun l=>(l.length:Int)≤12∧∀x ∈l,qD x=true) r3 b3 me r4 b4)
  (h4:zD q7p (fun l=>(l.length:Int)≤12∧∀t ∈l,0≤t∧t≤11) r4 b4 en r5 b5) (h5:zD qV (fun n=>0≤n∧n≤4096) r5 b5 k r6 b6) (h6:zD qV (fun n=>0≤n∧n≤4096) r6 b6 h r7 b7):
  zD Js ZT r0 b0 ⟨cl,st,it,me,en,k,h⟩ r7 b7:=
 (h0.seq (h1.seq (h2.seq (h3.seq (h4.seq (h5.seq h6)))))).map (fun q=>za.mk q.1 q.2.1 q.2.2.1 q.2.2.2.1 q.2.2.2.2.1 q.2.2.2.2.2.1 q.2.2.2.2.2.2) (by unfold Js jo jG;dsimp only;simp only[Xu]) fun z hz=>by
  obtain⟨cl,st,it,me,en,k,h⟩:=z;obtain⟨hf,hi⟩:=hz;unfold zK Ze at hf;simp only[Xr,Xt]at hf;obtain⟨⟨z1,z2,z3,z4,z5,z6,z7⟩,z8,z9⟩:=hf;exact⟨(cl,st,it,me,en,k,h),⟨⟨z1,fun c hc=>Xx.mp z8 c hc⟩,Xy z4,⟨z2,hi⟩,⟨z3,fun c hc=>Xx.mp z9 c hc⟩,Xy z5,Qb.mp z6,Qb.mp z7⟩,rfl,by unfold Js jo jG;dsimp only;simp only[Xu]⟩
theorem qq4{l:List Int}{m:za}{b:Bool}(hl:l.length≤8192)(h:zD Js ZT (l.drop 4) false m [] false)(hp:l.take 4=qG)(hf:zK m=true):Yq l m 0:=by
 refine .inl ⟨rfl,hf,?_,hl⟩;have e:=(h.2.1 rfl).2;rw[q4m,←hp];rw[List.append_nil]at e;rw[←e,List.take_append_drop]
theorem qi5{l:List Int}(hl:8192<l.length):Yq l jv 2:= .inr ⟨rfl,rfl,fun _ _ _=>hl⟩
theorem qi6{l:List Int}(hp:¬l.take 4=qG):Yq l jv 2:= .inr ⟨rfl,rfl,fun m' _ e=>absurd (by rw[←e,q4m];rfl) hp⟩
theorem qa8{l r:List Int}{m:za}{b:Bool}(h:zD Js ZT (l.drop 4) false m r b)(hn:¬(b=false∧r=[]∧zK m=true)):Yq l jv 2:=by
 refine .inr ⟨rfl,rfl,fun m' hm e=>absurd ?_ hn⟩;have e2:l.drop 4=Js m'++[]:=by rw[←e,q4m,List.append_nil];rfl
 obtain⟨g1,g2,g3⟩:=h.2.2 m' [] rfl hm e2;exact⟨g1,g3,by rw[g2];exact hm.1⟩
def NGet(N:Nat)(most:Int)(rest:List Int)(bad:Bool)(w:World)(e:Ending)(w':World):Prop:=
 ∃n rest' bad',e= .returned (.int .i64 n)∧0≤n∧n≤most∧Rd w' N rest' bad'∧w.grownBy w' (some N)∧zD qV (fun n=>0≤n∧n≤most) rest bad n rest' bad'
def LGet(N:Nat)(rest:List Int)(bad:Bool)(w:World)(e:Ending)(w':World):Prop:=
 ∃n rest' bad',e= .returned (.int .i32 n)∧OkL n∧Rd w' N rest' bad'∧w.grownBy w' (some N)∧zD jT OkL rest bad n rest' bad'
def TGet(N:Nat)(rest:List Int)(bad:Bool)(w:World)(e:Ending)(w':World):Prop:=
 ∃t rest' bad',e= .returned (zU t.1 t.2)∧Rd w' N rest' bad'∧w.grownBy w' (some N)∧zD qE (fun t=>qd t=true) rest bad t rest' bad'
def IGet(N:Nat)(rest:List Int)(bad:Bool)(w:World)(e:Ending)(w':World):Prop:=
 ∃i rest' bad',e= .returned (zF i.1 i.2.1 i.2.2)∧Rd w' N rest' bad'∧w.grownBy w' (some N)∧zD jp (fun i=>qf i.1 i.2.1 i.2.2=true) rest bad i rest' bad'
theorem Rd.far{w w':World}{N:Nat}{rest:List Int}{bad:Bool}(h:Rd w N rest bad)(hb:Below w.heap.size w w'):Rd w' N rest bad:=h.keep hb
theorem kP(N:Nat)(most:Int)(rest:List Int)(bad:Bool)(w:World)(hb:Bts rest)(hm:0≤most)(hm2:most≤34359738367)(h:Rd w N rest bad):
  Calls Tryz.prog 121 #[.pointer (some ⟨N,0,none⟩),.int .i64 most] w (NGet N most rest bad w):=
 (q5z N N rest bad most w hb.1 hb.2 (zn _) h).mono fun e w' hh=>by
  have hg:=q9a hh;obtain⟨⟨rfl,hrd,_⟩,_⟩:=hh;obtain⟨g1,g2,g3⟩:=qby hb hm hm2 (rfl:qc rest bad most=((qc rest bad most).1,(qc rest bad most).2.1,(qc rest bad most).2.2));exact⟨_,_,_,rfl,g1,g2,hrd,hg,g3⟩
theorem qou(N:Nat)(rest:List Int)(bad:Bool)(w:World)(hb:Bts rest)(h:Rd w N rest bad):
  Calls Tryz.prog 159 #[.pointer (some ⟨N,0,none⟩)] w (LGet N rest bad w):=
 (qfn N N rest bad w hb.1 hb.2 (zn _) h).mono fun e w' hh=>by
  have hg:=q9a hh;obtain⟨⟨rfl,hrd,_⟩,_⟩:=hh;obtain⟨g1,g2,g3⟩:=qby hb (by decide) (by decide) (rfl:qc rest bad 4294967295=((qc rest bad 4294967295).1,(qc rest bad 4294967295).2.1,(qc rest bad 4294967295).2.2));exact⟨_,_,_,rfl,qmp g1 g2,hrd,hg,g3.long g1⟩
theorem qp8(N:Nat)(rest:List Int)(bad:Bool)(w:World)(hb:Bts rest)(h:Rd w N rest bad):
  Calls Tryz.prog 161 #[.pointer (some ⟨N,0,none⟩)] w (IGet N rest bad w):=
 (qt0 N N rest bad w hb.1 hb.2 (zn _) h).mono fun e w' hh=>by
  obtain⟨⟨op,a,b,rfl,hrd,_,hv⟩,hg⟩:=hh;obtain⟨r,h1,h2⟩:=qpg hb hv;refine⟨(op,a,b),r,_,rfl,?_,hg,h1⟩;cases hbad:(vC rest bad).2.2
  ·rw[h2 hbad];rw[hbad]at hrd;exact hrd
  ·rw[hbad]at hrd;exact hrd.more
theorem qst(N:Nat)(rest:List Int)(bad:Bool)(w:World)(hb:Bts rest)(h:Rd w N rest bad):
  Calls Tryz.prog 116 #[.pointer (some ⟨N,0,none⟩)] w (LGet N rest bad w):=by
 have HB:=zH hb;have HR:=zH h;clear hb h;go_enter Tryz.func116,Tryz.ntmps116;go_wp2_with(go_at_call 159;(with_reducible refine(qou _ _ _ _ HB.out HR.out).mono ?_);rintro e w1 ⟨n,r1,b1,rfl,h1⟩;have H1:=zH h1;clear h1)
 go_ret;exact⟨n,r1,b1,rfl,H1.out⟩
theorem qsq(N:Nat)(rest:List Int)(bad:Bool)(w:World)(hb:Bts rest)(h:Rd w N rest bad):
  Calls Tryz.prog 120 #[.pointer (some ⟨N,0,none⟩)] w (NGet N 11 rest bad w):=by
 have HB:=zH hb;have HR:=zH h;clear hb h;go_enter Tryz.func120,Tryz.ntmps120;go_wp2_with(go_at_call 121;(with_reducible refine(kP _ _ _ _ _ HB.out (by decide) (by decide) HR.out).mono ?_);rintro e w1 ⟨n,r1,b1,rfl,h1⟩;have H1:=zH h1;clear h1)
 go_ret;exact⟨n,r1,b1,rfl,H1.out⟩
theorem qd2(N:Nat)(rest:List Int)(bad:Bool)(w:World)(hb:Bts rest)(h:Rd w N rest bad):
  Calls Tryz.prog 162 #[.pointer (some ⟨N,0,none⟩)] w (NGet N 4096 rest bad w):=by
 have HB:=zH hb;have HR:=zH h;clear hb h;go_enter Tryz.func162,Tryz.ntmps162;go_wp2_with(go_at_call 121;(with_reducible refine(kP _ _ _ _ _ HB.out (by decide) (by decide) HR.out).mono ?_);rintro e w1 ⟨n,r1,b1,rfl,h1⟩;have H1:=zH h1;clear h1)
 go_ret;exact⟨n,r1,b1,rfl,H1.out⟩
theorem qcp(N:Nat)(rest:List Int)(bad:Bool)(w:World)(hb:Bts rest)(h:Rd w N rest bad):
  Calls Tryz.prog 114 #[.pointer (some ⟨N,0,none⟩)] w (TGet N rest bad w):=by
 have hlt:=h.lt;have HB:=zH hb;have HR:=zH (h.keep ((zb _ _).alloc (zn _) (.cells #[.int .i64 0,.int .i64 0] 50)));have HB1:Hid ((w.alloc (.cells #[.int .i64 0,.int .i64 0] 50)).heap[w.heap.size]? =some (.cells [.int .i64 0,.int .i64 0].toArray 50 (0,0))):=zH (Xw _ _);have HG0:Hid (w.grownBy (w.alloc (.cells #[.int .i64 0,.int .i64 0] 50)) (some N)):=zH (World.grownBy_alloc _ _ _);clear hb h;go_enter Tryz.func114,Tryz.ntmps114;go_upto_region 2 with(go_at_call 121;(with_reducible refine(kP _ _ _ _ _ HB.out (by decide) (by decide) HR.out).mono ?_);rintro e w1 ⟨n,r1,b1,rfl,n0,n5,hrd,hg,hrel⟩;have HR1:=zH hrd;have HL1:=zH hrel;have HG1:=zH (qN HG0.out hg);have HB1:=zH (qA HB1.out hg (by omega));clear hrd hg hrel)
 have HA2:=zH ((zb w1.heap.size w1).alloc (zn _) (.cells #[.int .i64 n,.int .i64 0] 50));have HB2:Hid ((w1.alloc (.cells #[.int .i64 n,.int .i64 0] 50)).heap[w1.heap.size]? =some (.cells [.int .i64 n,.int .i64 0].toArray 50 (0,0))):=zH (Xw _ _);have HR2:=zH (HR1.out.keep HA2.out);have HB12:Hid ((w1.alloc (.cells #[.int .i64 n,.int .i64 0] 50)).heap[w.heap.size]? =some (.cells [.int .i64 0,.int .i64 0].toArray 50 (0,0))):=zH ((HA2.out.block _ (lt_of_block HB1.out)).trans HB1.out);have HG2:=zH (JN HG1.out (.cells #[.int .i64 n,.int .i64 0] 50));have hz:N<w1.heap.size:=HR1.out.lt;have hz1:w.heap.size<w1.heap.size:=lt_of_block HB1.out;generalize w1.alloc (.cells #[.int .i64 n,.int .i64 0] 50)=w2 at*
 have q0:=zk HB2.out 0 _ rfl;have q1:=zk HB2.out 1 _ rfl;by_cases h3:n=3
 ·subst h3;have HBt:=zH HL1.out.1;go_wp2_with(go_at_call 121;(with_reducible refine(kP _ _ _ _ _ HBt.out (by decide) (by decide) HR2.out).mono ?_);rintro e w3 ⟨m,r2,b2,rfl,m0,m7,hrd,hg,hrel⟩;have HR3:=zH hrd;have HL3:=zH hrel;have HG3:=zH (qN HG2.out hg);have HB3:=zH (qA HB2.out hg (by omega));have HB13:=zH (qA HB12.out hg (by omega));have q0:=zk HB3.out 0 _ rfl;have q1:=zk HB3.out 1 _ rfl;have f1:=zB HB3.out 1;have p0:=zk HB13.out 0 _ rfl;have p1:=zk HB13.out 1 _ rfl;have g0:=zB HB13.out 0;have g1:=zB HB13.out 1;clear hrd hg hrel)
  refine Xl (v:=zU 3 m) (by simp[results,Tryz.results114,go_sem,p0,p1]) rfl ⟨(3,m),r2,b2,rfl,?_,?_,HL1.out.ty3 HL3.out⟩
  ·exact HR3.out.keep_to ((((zb w.heap.size w3).setCell (p:=⟨w1.heap.size,1,none⟩) (by show w.heap.size≤w1.heap.size;omega) _).setCell (p:=⟨w.heap.size,0,none⟩) (zn _) _).setCell (p:=⟨w.heap.size,1,none⟩) (zn _) _) hlt
  ·exact qn (qn (qn HG3.out (a:=⟨w1.heap.size,1,none⟩) (by show w.heap.size≤w1.heap.size;omega) _) (a:=⟨w.heap.size,0,none⟩) (zn _) _) (a:=⟨w.heap.size,1,none⟩) (zn _) _
 ·have h3':(n==3)=false:=by simpa using h3
  have HN3:=zH h3;clear h3;have p0:=zk HB12.out 0 _ rfl;have p1:=zk HB12.out 1 _ rfl;have g0:=zB HB12.out 0;have g1:=zB HB12.out 1;go_wp2_with fail
  refine Xl (v:=zU n 0) (by simp[results,Tryz.results114,go_sem,p0,p1]) rfl ⟨(n,0),r1,b1,rfl,?_,?_,HL1.out.ty0 HN3.out⟩
  ·exact HR2.out.keep_to (((zb w.heap.size w2).setCell (p:=⟨w.heap.size,0,none⟩) (zn _) _).setCell (p:=⟨w.heap.size,1,none⟩) (zn _) _) hlt
  ·exact qn (qn HG2.out (a:=⟨w.heap.size,0,none⟩) (zn _) _) (a:=⟨w.heap.size,1,none⟩) (zn _) _
def qak(w:World)(e:Ending)(w':World):Prop:=∃b:Bool,e= .returned (.bool b)∧Below w.heap.size w w'
set_option maxHeartbeats 1600000 in
theorem qh5(m:za)(h:zi)(B:Nat)(w:World)(hB:B≤w.heap.size)(H:zm w B h m):
  Calls Tryz.prog 8 #[zp h m] w (qak w):=by
 have HW:=zH ((zb w.heap.size w).alloc (zn _) (zg h m));have HIM:=zH (H.below_to HW.out hB);have HBX:=zH (ql w h m);have HZ:Hid (w.heap.size<(w.alloc (zg h m)).heap.size):=zH (by simp);have HB:Hid (B≤(w.alloc (zg h m)).heap.size):=zH (Xd hB HW.out.size);clear hB H;go_enter Tryz.func8,Tryz.ntmps8;go_upto_region 1 with fail
 generalize w.alloc (zg h m)=w1 at*
 obtain⟨q0,q1,q2,q3,q4,q5,q6⟩:=HBX.out;go_wp2_with fail
 ·go_ret;exact⟨_,rfl,HW.out⟩
 ·go_loopw [3] (fun i wr=>∃k:Nat,k≤m.methods.length∧i= .int .i64 k∧Hid (Below w1.heap.size w1 wr)) (fun i _=>m.methods.length - (intOf i).toNat)
  case atStart=>exact⟨0,by omega,rfl,zH (zb _ _)⟩
  case round=>
   clear q0 q1 q2 q3 q4 q5 q6;obtain⟨k,hk,rfl,HX⟩:=hrel;obtain⟨q0,q1,q2,q3,q4,q5,q6⟩:=HBX.out.keep HX.out HZ.out;have l3:=HIM.out.methods.le;have l3c:=HIM.out.methods.cap;by_cases hlt:k<m.methods.length
   ·obtain⟨ad,e0,hab,hc⟩:=(HIM.out.methods.below_to qC.keeps HX.out HB.out).row.at_ hlt;rw[e0]at q3;clear e0;generalize m.methods[k]=x at*
    obtain⟨⟨A0,k0,s0,hs0⟩,⟨A1,k1,s1,hs1⟩,s2,s3,⟨A4,k4,s4,hs4⟩,s5,s6,⟨A7,k7,s7,hs7⟩⟩:=hc;clear hs0 hs1 hs4 hs7;go_wp2_with fail
    ·go_ret;exact⟨_,rfl,HW.out.trans ((HX.out.alloc HX.out.size _).mono (Xh HZ.out))⟩
    ·go_roundw;case rel=>exact⟨k+1,by omega,by go_num,zH (HX.out.alloc HX.out.size _)⟩
     case measure=>simp[intOf];omega
   ·go_wp2_with fail
    go_ret;exact⟨_,rfl,HW.out.trans (HX.out.mono (Xh HZ.out))⟩
theorem q2h{m:za}{h:zi}{w0 w:World}(HI:Hid (zm w0 w0.heap.size h m))(HX:Hid (Below w0.heap.size w0 w)):Calls Tryz.prog 8 #[zp h m] w (qak w):=
 qh5 m h w.heap.size w (zn _) (HI.out.now HX.out)
end Go.Proofs.YtcmiljnbmgkdnaaGreat
