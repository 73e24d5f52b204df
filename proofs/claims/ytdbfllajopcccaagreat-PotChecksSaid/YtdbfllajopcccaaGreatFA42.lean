import Derived.Test.YtdbfllajopcccaaGreatFA41
import Derived.Test.YtdbfllajopcccaaGreatFA39
namespace Go.Proofs.YtdbfllajopcccaaGreat
set_option maxRecDepth 100000
set_option linter.unusedVariables false
set_option linter.unusedSimpArgs false
open Go.ChangeShapes Go.WideShapes Go.ChangeAt Go.RowKit
theorem qhe{m:za}{l:List (List zu)}{A:Option Addr}{c k:Nat}{h:zl}{w0 w:World}{r:Int}(HI:Hid (zp w0 w0.heap.size h m))(HX:Hid (Below w0.heap.size w0 w))(HS:Hid (vc m=true))(HT:Hid (qM m w A c l))(HK:Hid (l.length=k))(HR:Hid (qZ m l=r))(H0:Hid (0≤r)):
  Calls Tryz.prog 10 #[zr h m,.slice A k c] w fun e w'=>e= .returned (.tuple #[.int .i64 r,.int .i64 6])∧Below w.heap.size w w':=by
 obtain rfl:=HK.out;have H:=q91 m l A c h w (HI.out.now HX.out) HS.out HT.out;rw[HR.out]at H;first|rw[if_pos H0.out,if_pos H0.out]at H|rw[if_neg H0.out,if_neg H0.out]at H
 exact H
theorem qlf{m:za}{l:List (List zu)}{A:Option Addr}{c k:Nat}{h:zl}{w0 w:World}{r:Int}(HI:Hid (zp w0 w0.heap.size h m))(HX:Hid (Below w0.heap.size w0 w))(HS:Hid (vc m=true))(HT:Hid (qM m w A c l))(HK:Hid (l.length=k))(HR:Hid (qZ m l=r))(H0:Hid (¬0≤r)):
  Calls Tryz.prog 10 #[zr h m,.slice A k c] w fun e w'=>e= .returned (.tuple #[.int .i64 0,.int .i64 0])∧Below w.heap.size w w':=by
 obtain rfl:=HK.out;have H:=q91 m l A c h w (HI.out.now HX.out) HS.out HT.out;rw[HR.out]at H;first|rw[if_pos H0.out,if_pos H0.out]at H|rw[if_neg H0.out,if_neg H0.out]at H
 exact H
set_option maxHeartbeats 3200000 in
theorem qdu(m:za)(h:zl)(w:World)(H:zp w w.heap.size h m):
  Calls Tryz.prog 3 #[zr h m] w fun e w'=>e= .returned (.bool true)∧Below w.heap.size w w':=by
 have HW:=zH (ko (w:=w) (h:=h) (m:=m));have HBX:=zH (qf w h m);have HZ:Hid (w.heap.size<(w.alloc (zq h m)).heap.size):=zH (by simp);have HI:=zH (H.now HW.out);clear H;obtain⟨A0,Ab,A2,A3,A4,k0,k1,k2,k3,k4⟩:=h;go_enter Tryz.func3,Tryz.ntmps3;go_upto_region 1 with fail
 generalize w.alloc (zq ⟨A0,Ab,A2,A3,A4,k0,k1,k2,k3,k4⟩ m)=w1 at*
 obtain⟨q0,q1,q2,q3,q4,q5,q6⟩:=HBX.out;have HX:Hid (Below w1.heap.size w1 w1):=zH (zb _ _);go_upto_region 2 with(go_at_call 8;(with_reducible refine(VW HI HX).mono ?_);rintro e w2 ⟨Al,nl,cl,ok,rfl,hb,hyes⟩;have HX2:=zH (HX.out.trans (hb.mono HX.out.size));have HYES:=zH hyes;clear hb hyes)
 clear q0 q1 q2 q3 q4 q5 q6;obtain⟨q0,q1,q2,q3,q4,q5,q6⟩:=HBX.out.keep HX2.out HZ.out;cases ok
 ·go_wp2_with(go_at_call 9;(with_reducible refine(kh _).mono ?_);rintro e w3 ⟨rfl,hb⟩;have HX3:=zH (HX2.out.trans (hb.mono HX2.out.size));clear hb)
  go_ret;exact⟨by first|rfl|simp,HW.out.trans (HX3.out.mono (Nat.le_of_lt HZ.out))⟩
 obtain⟨hs,l,hn,ht⟩:=HYES.out rfl;have HS:=zH hs;have HM:=zH (Qh hs);have HT:=zH ht;have HLL:Hid (l.length=nl):=zH (by rw[ht.2.2.1,hn]);obtain⟨r,hr⟩:∃z,qZ m l=z:=⟨_,rfl⟩
 have HR:=zH hr;clear hs hn ht hr HYES;by_cases h0:0≤r
 ·have H0:=zH h0;have hge:r ≥ 0:=h0;have he:(r==r)=true:=by simp
  go_upto_region 5 with(go_at_call 10;go_loud (with_reducible refine(qhe HI HX2 HS HT HLL HR H0).mono ?_);rintro e w3 ⟨rfl,hb⟩;have HX3:=zH (HX2.out.trans (hb.mono HX2.out.size));have HT3:=zH (HT.out.now hb);clear hb)
  clear q0 q1 q2 q3 q4 q5 q6;obtain⟨q0,q1,q2,q3,q4,q5,q6⟩:=HBX.out.keep HX3.out HZ.out;go_wp2_with(first|(go_at_call 11;(with_reducible refine(q5n HI HX3 HM HT3 HLL HR).mono ?_);rintro e w4 ⟨rfl,hb⟩;have HX4:=zH (HX3.out.trans (hb.mono HX3.out.size));clear hb)|(go_at_call 9;(with_reducible refine(kh _).mono ?_);rintro e w5 ⟨rfl,hb⟩;have HX5:=zH (HX4.out.trans (hb.mono HX4.out.size));clear hb))
  go_ret;exact⟨by first|rfl|simp,HW.out.trans (HX5.out.mono (Nat.le_of_lt HZ.out))⟩
 ·have H0:Hid (¬0≤r):=zH h0;have hge:¬r ≥ 0:=h0;go_upto_region 5 with(go_at_call 10;go_loud (with_reducible refine(qlf HI HX2 HS HT HLL HR H0).mono ?_);rintro e w3 ⟨rfl,hb⟩;have HX3:=zH (HX2.out.trans (hb.mono HX2.out.size));have HT3:=zH (HT.out.now hb);clear hb)
  clear q0 q1 q2 q3 q4 q5 q6;obtain⟨q0,q1,q2,q3,q4,q5,q6⟩:=HBX.out.keep HX3.out HZ.out;go_wp2_with(first|(go_at_call 11;(with_reducible refine(q5n HI HX3 HM HT3 HLL HR).mono ?_);rintro e w4 ⟨rfl,hb⟩;have HX4:=zH (HX3.out.trans (hb.mono HX3.out.size));clear hb)|(go_at_call 9;(with_reducible refine(kh _).mono ?_);rintro e w5 ⟨rfl,hb⟩;have HX5:=zH (HX4.out.trans (hb.mono HX4.out.size));clear hb))
  go_ret;exact⟨by first|rfl|simp,HW.out.trans (HX5.out.mono (Nat.le_of_lt HZ.out))⟩
end Go.Proofs.YtdbfllajopcccaaGreat
