import Derived.Test.YtdbfllajopcccaaGreatFA04
namespace Go.Proofs.YtdbfllajopcccaaGreat
set_option maxRecDepth 100000
set_option linter.unusedVariables false
set_option linter.unusedSimpArgs false
open Go.ChangeShapes Go.WideShapes Go.ChangeAt Go.RowKit
def JX(c:qv):Bool:=vA c.sup (-1) 7&& (Zh c.fields 8&& ZW c.slots 4 11)
def q0r(l:List (Int×Int×Int)):Bool:=l.all fun i=>jb i.1 i.2.1 i.2.2
def kX(x:ze):Bool:=Zh x.args 4&& (Zh x.locals 8&& (Qd x.ret&& (decide ((x.code.length:Int)≤64)&& (vA x.depth 0 8&& (vA x.pot 0 4096&& (ZW x.phi 64 4096&& q0r x.code))))))
def Qt(m:za):Bool:=decide ((m.classes.length:Int)≤8)&& (decide ((m.ints.length:Int)≤16)&& (decide ((m.methods.length:Int)≤12)&& (Zh m.statics 8&& (ZW m.entries 12 11&& (vA m.stack 0 4096&& vA m.heap 0 4096)))))
def qC(m:za):Bool:=Qt m&& (m.classes.all JX&& m.methods.all kX)
theorem Jy{l:List (Int×Int)}{n:Int}{A:Option Addr}{cap B:Nat}{w0 w:World}{r:Bool}(HL:Hid (zd zi 2 w0 B A cap l))(HB:Hid (B≤w0.heap.size))(HX:Hid (Below w0.heap.size w0 w))(HR:Hid (Zh l n=r)):
  Calls Tryz.prog 77 #[.slice A l.length cap,.int .i64 n] w fun e w'=>e= .returned (.bool r)∧Below w.heap.size w w':=by
 have h:=qgf l n A cap B w (Nat.le_trans HB.out HX.out.size) (HL.out.below_to zi.keeps HX.out HB.out);rw[HR.out]at h;exact h
theorem Vm{l:List Int}{n most:Int}{A:Option Addr}{cap B:Nat}{w0 w:World}{r:Bool}(HL:Hid (zd zo 1 w0 B A cap l))(HB:Hid (B≤w0.heap.size))(HX:Hid (Below w0.heap.size w0 w))(HR:Hid (ZW l n most=r)):
  Calls Tryz.prog 78 #[.slice A l.length cap,.int .i64 n,.int .i64 most] w fun e w'=>e= .returned (.bool r)∧w=w':=by
 have h:=qks l n most A cap B w (Nat.le_trans HB.out HX.out.size) (HL.out.below_to zo.keeps HX.out HB.out);rw[HR.out]at h;exact h
theorem qcq{t:Int×Int}{w:World}{r:Bool}(HR:Hid (Qd t=r)):Calls Tryz.prog 80 #[zO t.1 t.2] w fun e w'=>e= .returned (.bool r)∧Below w.heap.size w w':=by
 have h:=q5k t w;rw[HR.out]at h;exact h
theorem Yb{P:Prop}(h:P:=by
 go_wp2_with(first|(go_at_call 77;(with_reducible refine(Jy HSa HB2 HX2 D1).mono ?_);rintro e w' ⟨rfl,hb⟩;have HXc:=zj HXc hb;have HX2:=zj HX2 hb;obtain⟨r0,r1,r2,r3,r4,r5,r6,r7⟩:=qH (HBC.out.keep HX2.out HZ2.out);clear hb)|(go_at_call 77;(with_reducible refine(Jy HSl HB2 HX2 D2).mono ?_);rintro e w' ⟨rfl,hb⟩;have HXc:=zj HXc hb;have HX2:=zj HX2 hb;obtain⟨r0,r1,r2,r3,r4,r5,r6,r7⟩:=qH (HBC.out.keep HX2.out HZ2.out);clear hb)|(go_at_call 80;(with_reducible refine(qcq D3).mono ?_);rintro e w' ⟨rfl,hb⟩;have HXc:=zj HXc hb;have HX2:=zj HX2 hb;obtain⟨r0,r1,r2,r3,r4,r5,r6,r7⟩:=qH (HBC.out.keep HX2.out HZ2.out);clear hb)|(go_at_call 79;(with_reducible refine(kj D5).mono ?_);rintro e w' ⟨rfl,rfl⟩)|(go_at_call 79;(with_reducible refine(kj D6).mono ?_);rintro e w' ⟨rfl,rfl⟩)|(go_at_call 78;(with_reducible refine(Vm HSp HB2 HX2 D7).mono ?_);rintro e w' ⟨rfl,rfl⟩))
 go_ret;exact⟨by rw[E2.out];rfl,HW.out.trans (HXc.out.mono HZ'.out)⟩):P:=h
theorem Ya{P:Prop}(h:P:=by
 go_wp2_with(first|(go_at_call 77;(with_reducible refine(Jy HS1 HB HX H4).mono ?_);rintro e w' ⟨rfl,hb⟩;have HX:=zj HX hb;obtain⟨q0,q1,q2,q3,q4,q5,q6⟩:=HBX.out.keep HX.out HZ.out;clear hb)|(go_at_call 78;(with_reducible refine(Vm HS4 HB HX H5).mono ?_);rintro e w' ⟨rfl,rfl⟩)|(go_at_call 79;(with_reducible refine(kj H6).mono ?_);rintro e w' ⟨rfl,rfl⟩)|(go_at_call 79;(with_reducible refine(kj H7).mono ?_);rintro e w' ⟨rfl,rfl⟩))
 go_ret;exact⟨by rw[E2.out];rfl,HW.out.trans (HX.out.mono HZ'.out)⟩):P:=h
theorem q3a{P:Prop}(h:P:=by
 have E2:=zH (show qC m=false by unfold qC;rw[HNOT.out (by unfold JX;simp[D1.out,D2.out,D3.out])];simp);go_wp2_with(first|(go_at_call 79;(with_reducible refine(kj D1).mono ?_);rintro e w' ⟨rfl,rfl⟩)|(go_at_call 77;(with_reducible refine(Jy HSf HB2 HX2 D2).mono ?_);rintro e w' ⟨rfl,hb⟩;have HXc:=zj HXc hb;have HX2:=zj HX2 hb;obtain⟨r0,r1,r2⟩:=zJ (HBC.out.keep HX2.out HZ2.out);clear hb)|(go_at_call 78;(with_reducible refine(Vm HSs HB2 HX2 D3).mono ?_);rintro e w' ⟨rfl,rfl⟩))
 go_ret;exact⟨by rw[E2.out];rfl,HW.out.trans (HXc.out.mono HZ'.out)⟩):P:=h
set_option maxHeartbeats 6400000 in
theorem q4q(m:za)(h:zl)(B:Nat)(w:World)(hB:B≤w.heap.size)(H:zp w B h m):
  Calls Tryz.prog 44 #[zr h m] w fun e w'=>e= .returned (.bool (qC m))∧Below w.heap.size w w':=by
 have HW:=zH ((zb w.heap.size w).alloc (zn _) (zq h m));have HIM:=zH (H.below_to HW.out hB);have HBX:=zH (qf w h m);have HB:Hid (B≤(w.alloc (zq h m)).heap.size):=zH (Nat.le_trans hB HW.out.size);have HZ:Hid (w.heap.size<(w.alloc (zq h m)).heap.size):=zH (by simp);have HZ':Hid (w.heap.size≤(w.alloc (zq h m)).heap.size):=zH (by simp);have HX:Hid (Below (w.alloc (zq h m)).heap.size (w.alloc (zq h m)) (w.alloc (zq h m))):=zH (zb _ _);have HS1:=zH HIM.out.statics;have HS4:=zH HIM.out.entries;have bounds:m.classes.length≤9223372036854775807∧m.ints.length≤9223372036854775807∧m.methods.length≤9223372036854775807:=by
  have:=HIM.out.classes.le;have:=HIM.out.classes.cap;have:=HIM.out.ints.le;have:=HIM.out.ints.cap;have:=HIM.out.methods.le;have:=HIM.out.methods.cap;omega
 obtain⟨bb0,bb1,bb2⟩:=bounds;obtain⟨b4,h4⟩:∃b,Zh m.statics 8=b:=⟨_,rfl⟩
 have H4:=zH h4;obtain⟨b5,h5⟩:∃b,ZW m.entries 12 11=b:=⟨_,rfl⟩
 have H5:=zH h5;obtain⟨b6,h6⟩:∃b,vA m.stack 0 4096=b:=⟨_,rfl⟩
 have H6:=zH h6;obtain⟨b7,h7⟩:∃b,vA m.heap 0 4096=b:=⟨_,rfl⟩
 have H7:=zH h7;clear hB H h4 h5 h6 h7;go_enter Tryz.func44,Tryz.ntmps44;by_cases c0:(8:Int)<m.classes.length
 ·have E2:=zH (show qC m=false by unfold qC Qt;rw[decide_eq_false (by omega)];rfl);exact Ya
 by_cases c1:(16:Int)<m.ints.length
 ·have E2:=zH (show qC m=false by unfold qC Qt;rw[decide_eq_true (by omega),decide_eq_false (p:=(m.ints.length:Int)≤16) (by omega)];rfl);exact Ya
 by_cases c2:(12:Int)<m.methods.length
 ·have E2:=zH (show qC m=false by unfold qC Qt;rw[decide_eq_true (by omega),decide_eq_true (p:=(m.ints.length:Int)≤16) (by omega),decide_eq_false (p:=(m.methods.length:Int)≤12) (by omega)];rfl);exact Ya
 cases b4
 ·have E2:=zH (show qC m=false by unfold qC Qt;simp[H4.out,H5.out,H6.out,H7.out]);exact Ya
 ·cases b5
  ·have E2:=zH (show qC m=false by unfold qC Qt;simp[H4.out,H5.out,H6.out,H7.out]);exact Ya
  ·cases b6
   ·have E2:=zH (show qC m=false by unfold qC Qt;simp[H4.out,H5.out,H6.out,H7.out]);exact Ya
   ·cases b7
    ·have E2:=zH (show qC m=false by unfold qC Qt;simp[H4.out,H5.out,H6.out,H7.out]);exact Ya
    ·have HHD:=zH (show Qt m=true by unfold Qt;rw[decide_eq_true (by omega),decide_eq_true (p:=(m.ints.length:Int)≤16) (by omega),decide_eq_true (p:=(m.methods.length:Int)≤12) (by omega),H4.out,H5.out,H6.out,H7.out];rfl);go_wp2_with(first|(go_at_call 77;(with_reducible refine(Jy HS1 HB HX H4).mono ?_);rintro e w' ⟨rfl,hb⟩;have HX:=zj HX hb;obtain⟨q0,q1,q2,q3,q4,q5,q6⟩:=HBX.out.keep HX.out HZ.out;clear hb)|(go_at_call 78;(with_reducible refine(Vm HS4 HB HX H5).mono ?_);rintro e w' ⟨rfl,rfl⟩)|(go_at_call 79;(with_reducible refine(kj H6).mono ?_);rintro e w' ⟨rfl,rfl⟩)|(go_at_call 79;(with_reducible refine(kj H7).mono ?_);rintro e w' ⟨rfl,rfl⟩))
     go_loopw [3] (fun i wr=>∃k:Nat,k≤m.classes.length∧i= .int .i64 k∧Hid (∀c ∈m.classes.take k,JX c=true)∧Hid (Below (w.alloc (zq h m)).heap.size (w.alloc (zq h m)) wr)) (fun i _=>m.classes.length - (intOf i).toNat)
     case atStart=>exact⟨0,by omega,rfl,zH (by simp),HX⟩
     case round=>
      clear HX q0 q1 q2 q3 q4 q5 q6;obtain⟨k,hk,rfl,HN,HX⟩:=hrel;obtain⟨q0,q1,q2,q3,q4,q5,q6⟩:=HBX.out.keep HX.out HZ.out;have bc1:=HIM.out.classes.le;have bc2:=HIM.out.classes.cap;by_cases hlt:k<m.classes.length
      ·obtain⟨ad,e0,hab,hc⟩:=(HIM.out.classes.below_to jc.keeps HX.out HB.out).row.at_ hlt;rw[e0]at q0;clear e0;have HNOT:=zH (fun g:JX m.classes[k]=false=>Zx hlt g);have HYES:=zH (fun g:JX m.classes[k]=true=>Zc hlt HN.out g);generalize m.classes[k]=c at*
       obtain⟨s0,⟨A1,k1,s1,hs1⟩,⟨A2,k2,s2,hs2⟩⟩:=hc;obtain⟨d1,hd1⟩:∃b,vA c.sup (-1) 7=b:=⟨_,rfl⟩
       have D1:=zH hd1;obtain⟨d2,hd2⟩:∃b,Zh c.fields 8=b:=⟨_,rfl⟩
       have D2:=zH hd2;obtain⟨d3,hd3⟩:∃b,ZW c.slots 4 11=b:=⟨_,rfl⟩
       have D3:=zH hd3;have hA:Below wr.heap.size wr (wr.alloc (.cells #[.int .i64 c.sup,.slice A1 c.fields.length k1,.slice A2 c.slots.length k2] 90)):=(zb _ _).alloc (zn _) _;have hBr:B≤wr.heap.size:=Nat.le_trans HB.out HX.out.size;have HXc:=zj HX hA;have HSf:=zH (hs1.below_to zi.keeps hA hBr);have HSs:=zH (hs2.below_to zo.keeps hA hBr);have HB2:=zH (Nat.le_trans hBr hA.size);have HBC:=zH (qd wr [.int .i64 c.sup,.slice A1 c.fields.length k1,.slice A2 c.slots.length k2] 90);have HZ2:Hid (wr.heap.size<(wr.alloc (.cells #[.int .i64 c.sup,.slice A1 c.fields.length k1,.slice A2 c.slots.length k2] 90)).heap.size):=zH (by simp);clear hd1 hd2 hd3 hA hBr hs1 hs2 hab;go_upto_region 7 with fail
       generalize wr.alloc (.cells #[.int .i64 c.sup,.slice A1 c.fields.length k1,.slice A2 c.slots.length k2] 90)=w2 at*
       have HX2:Hid (Below w2.heap.size w2 w2):=zH (zb _ _);obtain⟨r0,r1,r2⟩:=zJ HBC.out;cases d1
       ·exact q3a
       ·cases d2
        ·exact q3a
        ·cases d3
         ·exact q3a
         ·have HOK:=zH (HYES.out (by unfold JX;rw[D1.out,D2.out,D3.out];rfl));go_wp2_with(first|(go_at_call 79;(with_reducible refine(kj D1).mono ?_);rintro e w' ⟨rfl,rfl⟩)|(go_at_call 77;(with_reducible refine(Jy HSf HB2 HX2 D2).mono ?_);rintro e w' ⟨rfl,hb⟩;have HXc:=zj HXc hb;have HX2:=zj HX2 hb;obtain⟨r0,r1,r2⟩:=zJ (HBC.out.keep HX2.out HZ2.out);clear hb)|(go_at_call 78;(with_reducible refine(Vm HSs HB2 HX2 D3).mono ?_);rintro e w' ⟨rfl,rfl⟩))
          go_roundw;case rel=>exact⟨k+1,by omega,by go_num,HOK,HXc⟩
          case measure=>simp[intOf];omega
      ·have HCA:=zH (ZO HN.out (show m.classes.length≤k by omega));clear HN;go_wp2_with fail
       go_loopw [5] (fun i wr=>∃k:Nat,k≤m.methods.length∧i= .int .i64 k∧Hid (∀x ∈m.methods.take k,kX x=true)∧Hid (Below (w.alloc (zq h m)).heap.size (w.alloc (zq h m)) wr)) (fun i _=>m.methods.length - (intOf i).toNat)
       case atStart=>exact⟨0,by omega,rfl,zH (by simp),HX⟩
       case round=>
        clear HX q0 q1 q2 q3 q4 q5 q6 hlt hk;obtain⟨k,hk,rfl,HN,HX⟩:=hrel;obtain⟨q0,q1,q2,q3,q4,q5,q6⟩:=HBX.out.keep HX.out HZ.out;have bc3:=HIM.out.methods.le;have bc4:=HIM.out.methods.cap;by_cases hlt:k<m.methods.length
        ·obtain⟨ad,e0,hab,hc⟩:=(HIM.out.methods.below_to jW.keeps HX.out HB.out).row.at_ hlt;rw[e0]at q3;clear e0;have HNOT:=zH (fun g:kX m.methods[k]=false=>Zx hlt g);have HYES:=zH (fun g:kX m.methods[k]=true=>Zc hlt HN.out g);generalize m.methods[k]=x at*
         obtain⟨⟨A0,k0,s0,hs0⟩,⟨A1,k1,s1,hs1⟩,s2,s3,⟨A4,k4,s4,hs4⟩,s5,s6,⟨A7,k7,s7,hs7⟩⟩:=hc;obtain⟨d1,hd1⟩:∃b,Zh x.args 4=b:=⟨_,rfl⟩
         have D1:=zH hd1;obtain⟨d2,hd2⟩:∃b,Zh x.locals 8=b:=⟨_,rfl⟩
         have D2:=zH hd2;obtain⟨d3,hd3⟩:∃b,Qd x.ret=b:=⟨_,rfl⟩
         have D3:=zH hd3;obtain⟨d5,hd5⟩:∃b,vA x.depth 0 8=b:=⟨_,rfl⟩
         have D5:=zH hd5;obtain⟨d6,hd6⟩:∃b,vA x.pot 0 4096=b:=⟨_,rfl⟩
         have D6:=zH hd6;obtain⟨d7,hd7⟩:∃b,ZW x.phi 64 4096=b:=⟨_,rfl⟩
         have D7:=zH hd7;have hA:Below wr.heap.size wr (wr.alloc (.cells #[.slice A0 x.args.length k0,.slice A1 x.locals.length k1,.int .i64 x.ret.1,.int .i64 x.ret.2,.slice A4 x.code.length k4,.int .i64 x.depth,.int .i64 x.pot,.slice A7 x.phi.length k7] 42)):=(zb _ _).alloc (zn _) _;have hBr:B≤wr.heap.size:=Nat.le_trans HB.out HX.out.size;have HXc:=zj HX hA;have HSa:=zH (hs0.below_to zi.keeps hA hBr);have HSl:=zH (hs1.below_to zi.keeps hA hBr);have hs4:=hs4.below_to qw.keeps hA hBr;have HSp:=zH (hs7.below_to zo.keeps hA hBr);have HB2:=zH (Nat.le_trans hBr hA.size);have HBC:=zH (qd wr [.slice A0 x.args.length k0,.slice A1 x.locals.length k1,.int .i64 x.ret.1,.int .i64 x.ret.2,.slice A4 x.code.length k4,.int .i64 x.depth,.int .i64 x.pot,.slice A7 x.phi.length k7] 42);have HZ2:Hid (wr.heap.size<(wr.alloc (.cells #[.slice A0 x.args.length k0,.slice A1 x.locals.length k1,.int .i64 x.ret.1,.int .i64 x.ret.2,.slice A4 x.code.length k4,.int .i64 x.depth,.int .i64 x.pot,.slice A7 x.phi.length k7] 42)).heap.size):=zH (by simp);clear hd1 hd2 hd3 hd5 hd6 hd7 hA hBr hs0 hs1 hs7 hab;go_upto_region 13 with fail
         generalize wr.alloc (.cells #[.slice A0 x.args.length k0,.slice A1 x.locals.length k1,.int .i64 x.ret.1,.int .i64 x.ret.2,.slice A4 x.code.length k4,.int .i64 x.depth,.int .i64 x.pot,.slice A7 x.phi.length k7] 42)=w2 at*
         have HX2:Hid (Below w2.heap.size w2 w2):=zH (zb _ _);have HWX:=HXc;obtain⟨r0,r1,r2,r3,r4,r5,r6,r7⟩:=qH HBC.out;cases d1
         ·have E2:=zH (show qC m=false by unfold qC;rw[HNOT.out (by unfold kX;rw[D1.out];rfl)];simp);exact Yb
         ·cases d2
          ·have E2:=zH (show qC m=false by unfold qC;rw[HNOT.out (by unfold kX;rw[D1.out,D2.out];rfl)];simp);exact Yb
          ·cases d3
           ·have E2:=zH (show qC m=false by unfold qC;rw[HNOT.out (by unfold kX;rw[D1.out,D2.out,D3.out];rfl)];simp);exact Yb
           ·by_cases c4:(64:Int)<x.code.length
            ·have E2:=zH (show qC m=false by unfold qC;rw[HNOT.out (by unfold kX;rw[D1.out,D2.out,D3.out,decide_eq_false (p:=(x.code.length:Int)≤64) (by omega)];rfl)];simp);exact Yb
            cases d5
            ·have E2:=zH (show qC m=false by unfold qC;rw[HNOT.out (by unfold kX;rw[D1.out,D2.out,D3.out,decide_eq_true (p:=(x.code.length:Int)≤64) (by omega),D5.out];rfl)];simp);exact Yb
            ·cases d6
             ·have E2:=zH (show qC m=false by unfold qC;rw[HNOT.out (by unfold kX;rw[D1.out,D2.out,D3.out,decide_eq_true (p:=(x.code.length:Int)≤64) (by omega),D5.out,D6.out];rfl)];simp);exact Yb
             ·cases d7
              ·have E2:=zH (show qC m=false by unfold qC;rw[HNOT.out (by unfold kX;rw[D1.out,D2.out,D3.out,decide_eq_true (p:=(x.code.length:Int)≤64) (by omega),D5.out,D6.out,D7.out];rfl)];simp);exact Yb
              ·have HE4:=zH hs4;go_wp2_with(first|(go_at_call 77;(with_reducible refine(Jy HSa HB2 HX2 D1).mono ?_);rintro e w' ⟨rfl,hb⟩;have HXc:=zj HXc hb;have HX2:=zj HX2 hb;obtain⟨r0,r1,r2,r3,r4,r5,r6,r7⟩:=qH (HBC.out.keep HX2.out HZ2.out);clear hb)|(go_at_call 77;(with_reducible refine(Jy HSl HB2 HX2 D2).mono ?_);rintro e w' ⟨rfl,hb⟩;have HXc:=zj HXc hb;have HX2:=zj HX2 hb;obtain⟨r0,r1,r2,r3,r4,r5,r6,r7⟩:=qH (HBC.out.keep HX2.out HZ2.out);clear hb)|(go_at_call 80;(with_reducible refine(qcq D3).mono ?_);rintro e w' ⟨rfl,hb⟩;have HXc:=zj HXc hb;have HX2:=zj HX2 hb;obtain⟨r0,r1,r2,r3,r4,r5,r6,r7⟩:=qH (HBC.out.keep HX2.out HZ2.out);clear hb)|(go_at_call 79;(with_reducible refine(kj D5).mono ?_);rintro e w' ⟨rfl,rfl⟩)|(go_at_call 79;(with_reducible refine(kj D6).mono ?_);rintro e w' ⟨rfl,rfl⟩)|(go_at_call 78;(with_reducible refine(Vm HSp HB2 HX2 D7).mono ?_);rintro e w' ⟨rfl,rfl⟩))
               go_loopw [7] (fun i wr=>∃j:Nat,j≤x.code.length∧i= .int .i64 j∧Hid (∀i ∈x.code.take j,jb i.1 i.2.1 i.2.2=true)∧Hid (Below w2.heap.size w2 wr)) (fun i _=>x.code.length - (intOf i).toNat)
               case atStart=>exact⟨0,by omega,rfl,zH (by simp),HX2⟩
               case round=>
                clear HX2 HXc r0 r1 r2 r3 r4 r5 r6 r7;obtain⟨j,hj,rfl,HM,HX3⟩:=hrel;obtain⟨r0,r1,r2,r3,r4,r5,r6,r7⟩:=qH (HBC.out.keep HX3.out HZ2.out);have bk1:=HE4.out.le;have bk2:=HE4.out.cap;by_cases hltj:j<x.code.length
                ·obtain⟨ad4,e4,hab4,t0,t1,t2⟩:=(HE4.out.below_to qw.keeps HX3.out HB2.out).row.at_ hltj;rw[e4]at r4;clear e4 hab4;have HCN:=zH (fun g:(fun i:Int×Int×Int=>jb i.1 i.2.1 i.2.2) x.code[j]=false=>(Zx hltj g:q0r x.code=false));have HCY:=zH (fun g:(fun i:Int×Int×Int=>jb i.1 i.2.1 i.2.2) x.code[j]=true=>Zc hltj HM.out g);generalize x.code[j]=ins at*
                 obtain⟨op,a,b⟩:=ins;dsimp only at t0 t1 t2;obtain⟨g,hg⟩:∃g,jb op a b=g:=⟨_,rfl⟩
                 have G:=zH hg;clear hg;cases g
                 ·have E2:=zH (show qC m=false by unfold qC;rw[HNOT.out (by unfold kX;rw[show q0r x.code=false from HCN.out G.out];simp)];simp);go_wp2_with(first|(go_at_call 81;(with_reducible refine(q8v op a b _).mono ?_);rintro e w' ⟨he,hb⟩;rw[G.out]at he;subst he;have HX3:=zj HX3 hb;clear hb))
                  go_ret;exact⟨by rw[E2.out];rfl,HW.out.trans ((HWX.out.trans (HX3.out.mono HWX.out.size)).mono HZ'.out)⟩
                 ·have HOK:=zH (HCY.out G.out);go_wp2_with(first|(go_at_call 81;(with_reducible refine(q8v op a b _).mono ?_);rintro e w' ⟨he,hb⟩;rw[G.out]at he;subst he;have HX3:=zj HX3 hb;clear hb))
                  go_roundw;case rel=>exact⟨j+1,by omega,by go_num,HOK,HX3⟩
                  case measure=>simp[intOf];omega
                ·have HCA:=zH (show q0r x.code=true from ZO HM.out (by omega));have HOK:=zH (HYES.out (by unfold kX;rw[D1.out,D2.out,D3.out,D5.out,D6.out,D7.out,HCA.out,decide_eq_true (p:=(x.code.length:Int)≤64) (by omega)];rfl));have HXD:=zH (HWX.out.trans (HX3.out.mono HWX.out.size));go_wp2_with fail
                 go_roundw;case rel=>exact⟨k+1,by omega,by go_num,HOK,HXD⟩
                 case measure=>simp[intOf];omega
        ·have HMA:=zH (ZO HN.out (show m.methods.length≤k by omega));have E2:=zH (show qC m=true by unfold qC;rw[HHD.out,HCA.out,HMA.out];rfl);go_wp2_with fail
         go_ret;exact⟨by rw[E2.out];rfl,HW.out.trans (HX.out.mono HZ'.out)⟩
theorem VV{n a b:Int}:vA n a b=true↔a≤n∧n≤b:=by unfold vA;simp
theorem q8k{t:Int×Int}(h:Qd t=true):0≤t.1∧t.1≤5∧0≤t.2∧t.2≤7:=by
 have:=of_decide_eq_true h;omega
theorem q0w{l:List (Int×Int)}{n:Int}(h:Zh l n=true):(l.length:Int)≤n∧∀t ∈l,0≤t.1∧t.1≤5∧0≤t.2∧t.2≤7:=by
 have:=of_decide_eq_true h;exact⟨this.1,fun t ht=>q8k (this.2 t ht)⟩
theorem q3k{l:List Int}{n most:Int}(h:ZW l n most=true):(l.length:Int)≤n∧∀t ∈l,0≤t∧t≤most:=of_decide_eq_true h
theorem qpf{l:List (Int×Int×Int)}(h:q0r l=true):∀i ∈l,jb i.1 i.2.1 i.2.2=true:=fun i hi=>List.all_eq_true.mp h i hi
structure qdb(c:qv):Prop where
 sup0: -1≤c.sup
 sup1:c.sup≤7
 fl:c.fields.length≤8
 ft:∀t ∈c.fields,0≤t.1∧t.1≤5∧0≤t.2∧t.2≤7
 sl:c.slots.length≤4
 st:∀t ∈c.slots,0≤t∧t≤11
theorem qrk{c:qv}(h:JX c=true):qdb c:=by
 unfold JX at h;simp only[Bool.and_eq_true]at h;obtain⟨h1,h2,h3⟩:=h;have h1:=VV.mp h1;have h2:=q0w h2;have h3:=q3k h3;exact⟨h1.1,h1.2,by omega,h2.2,by omega,h3.2⟩
structure q6f(x:ze):Prop where
 al:x.args.length≤4
 at_:∀t ∈x.args,0≤t.1∧t.1≤5∧0≤t.2∧t.2≤7
 ll:x.locals.length≤8
 lt:∀t ∈x.locals,0≤t.1∧t.1≤5∧0≤t.2∧t.2≤7
 rt:0≤x.ret.1∧x.ret.1≤5∧0≤x.ret.2∧x.ret.2≤7
 cl:x.code.length≤64
 ct:∀i ∈x.code,jb i.1 i.2.1 i.2.2=true
 d0:0≤x.depth
 d1:x.depth≤8
 p0:0≤x.pot
 p1:x.pot≤4096
 pl:x.phi.length≤64
 pt:∀t ∈x.phi,0≤t∧t≤4096
theorem qr9{x:ze}(h:kX x=true):q6f x:=by
 unfold kX at h;simp only[Bool.and_eq_true,decide_eq_true_eq]at h;obtain⟨h1,h2,h3,h4,h5,h6,h7,h8⟩:=h;have h1:=q0w h1;have h2:=q0w h2;have h3:=q8k h3;have h5:=VV.mp h5;have h6:=VV.mp h6;have h7:=q3k h7;exact⟨by omega,h1.2,by omega,h2.2,h3,by omega,qpf h8,h5.1,h5.2,h6.1,h6.2,by omega,h7.2⟩
structure qd8(m:za):Prop where
 cl:m.classes.length≤8
 ct:∀c ∈m.classes,qdb c
 sl:m.statics.length≤8
 st:∀t ∈m.statics,0≤t.1∧t.1≤5∧0≤t.2∧t.2≤7
 il:m.ints.length≤16
 ml:m.methods.length≤12
 mt:∀x ∈m.methods,q6f x
 el:m.entries.length≤12
 et:∀t ∈m.entries,0≤t∧t≤11
 k0:0≤m.stack
 k1:m.stack≤4096
 h0:0≤m.heap
 h1:m.heap≤4096
theorem qd1{m:za}(h:qC m=true):qd8 m:=by
 unfold qC Qt at h;simp only[Bool.and_eq_true,decide_eq_true_eq]at h;obtain⟨⟨h1,h2,h3,h4,h5,h6,h7⟩,h8,h9⟩:=h;have h4:=q0w h4;have h5:=q3k h5;have h6:=VV.mp h6;have h7:=VV.mp h7;exact⟨by omega,fun c hc=>qrk (List.all_eq_true.mp h8 c hc),by omega,h4.2,by omega,by omega,fun x hx=>qr9 (List.all_eq_true.mp h9 x hx),by omega,h5.2,h6.1,h6.2,h7.1,h7.2⟩
end Go.Proofs.YtdbfllajopcccaaGreat
