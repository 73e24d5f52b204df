import Derived.Test.YtdbfllajopcccaaGreatFA40
namespace Go.Proofs.YtdbfllajopcccaaGreat
set_option maxRecDepth 100000
set_option linter.unusedVariables false
set_option linter.unusedSimpArgs false
open Go.ChangeShapes Go.WideShapes Go.ChangeAt Go.RowKit
theorem qhc{m:za}{x:ze}{op a b v:Int}{h:zl}{w0 w:World}(HI:Hid (zp w0 w0.heap.size h m))(HX:Hid (Below w0.heap.size w0 w))(HS:Hid (vc m=true))(HXM:Hid (x ∈m.methods))(HC:Hid ((op,a,b) ∈x.code))(HV:Hid (jx m op a b=v)):
  Calls Tryz.prog 12 #[zr h m,zF op a b] w fun e w'=>e= .returned (.int .i64 v)∧Below w.heap.size w w':=by
 have H:=qld m x op a b h w (HI.out.now HX.out) HS.out HXM.out HC.out;rw[HV.out]at H;exact H
set_option maxHeartbeats 6400000 in
theorem qee(m:za)(h:zl)(w:World)(H:zp w w.heap.size h m):
  Calls Tryz.prog 4 #[zr h m] w fun e w'=>e= .returned (.bool true)∧Below w.heap.size w w':=by
 have HW:=zH (ko (w:=w) (h:=h) (m:=m));have HBX:=zH (qf w h m);have HZ:Hid (w.heap.size<(w.alloc (zq h m)).heap.size):=zH (by simp);have HI:=zH (H.now HW.out);have hle:=H.methods.le;have hcap:=H.methods.cap;clear H;obtain⟨A0,Ab,A2,A3,A4,k0,k1,k2,k3,k4⟩:=h;dsimp only at hle hcap;go_enter Tryz.func4,Tryz.ntmps4;go_upto_region 1 with fail
 generalize w.alloc (zq ⟨A0,Ab,A2,A3,A4,k0,k1,k2,k3,k4⟩ m)=w1 at*
 obtain⟨q0,q1,q2,q3,q4,q5,q6⟩:=HBX.out;dsimp only at q0 q1 q2 q3 q4 q5 q6;have HX:Hid (Below w1.heap.size w1 w1):=zH (zb _ _);go_upto_region 2 with(first|(go_at_call 8;(with_reducible refine(VW HI HX).mono ?_);rintro e w7 ⟨Al,nl,cl,bt,rfl,hb,hyes⟩;have HX:=zH (HX.out.trans (hb.mono HX.out.size));clear hb;obtain⟨q0,q1,q2,q3,q4,q5,q6⟩:=HBX.out.keep HX.out HZ.out;dsimp only at q0 q1 q2 q3 q4 q5 q6))
 cases bt
 ·go_wp2_with(first|(go_at_call 9;(with_reducible refine(kh _).mono ?_);rintro e w7 ⟨rfl,hb⟩;have HX:=zH (HX.out.trans (hb.mono HX.out.size));clear hb;obtain⟨q0,q1,q2,q3,q4,q5,q6⟩:=HBX.out.keep HX.out HZ.out;dsimp only at q0 q1 q2 q3 q4 q5 q6))
  go_ret;exact⟨by first|rfl|simp,HW.out.trans (HX.out.mono (Nat.le_of_lt HZ.out))⟩
 have HS:=zH (hyes rfl).1;have HM:=zH (Qh HS.out);clear hyes;go_wp2_with fail
 go_loopw [5] (fun i wr=>∃k:Nat,k≤m.methods.length∧i= .int .i64 k∧Hid (Below w1.heap.size w1 wr)) (fun i _=>m.methods.length - (intOf i).toNat)
 case atStart=>exact⟨0,Nat.zero_le _,rfl,HX⟩
 case round=>
  clear HX;obtain⟨k,hk,rfl,HX⟩:=hrel;obtain⟨q0,q1,q2,q3,q4,q5,q6⟩:=HBX.out.keep HX.out HZ.out;dsimp only at q0 q1 q2 q3 q4 q5 q6;by_cases hkm:k<m.methods.length;rotate_left
  ·have hki:¬(k:Int)<(m.methods.length:Int):=by omega
   go_wp2_with(first|(go_at_call 9;(with_reducible refine(kh _).mono ?_);rintro e w7 ⟨rfl,hb⟩;have HX:=zH (HX.out.trans (hb.mono HX.out.size));clear hb;obtain⟨q0,q1,q2,q3,q4,q5,q6⟩:=HBX.out.keep HX.out HZ.out;dsimp only at q0 q1 q2 q3 q4 q5 q6))
   go_ret;exact⟨by first|rfl|simp,HW.out.trans (HX.out.mono (Nat.le_of_lt HZ.out))⟩
  have hki:(k:Int)<(m.methods.length:Int):=by omega
  obtain⟨ad,hx,eA,hab,hin,hcm⟩:=jB HI.out hkm;dsimp only at eA;subst eA;have HXM:Hid (m.methods[k] ∈m.methods):=zH (List.getElem_mem hkm);generalize m.methods[k]=x at*
  obtain⟨n,hn⟩:∃n,x.code.length=n:=⟨_,rfl⟩
  have HNN:=zH hn;have HCR:=zH hin.code.row;have hcl:=hin.code.le;have hcc:=hin.code.cap;have hc4:=hcm.c4;rw[hn]at hc4 hcl;have HC4:Hid (∀V,Below w1.heap.size w1 V→V.cell? (zc (ad.add (k*8)) 4)=some (.slice hx.A4 n hx.k4)):=zH (fun V hV=>(hV.cell (p:=zc (ad.add (k*8)) 4) (by show(ad.add (k*8)).block<_;rw[zt];exact hab)).trans hc4);clear hc4 hn hin hcm hab;go_wp2_with fail
  go_loopw [6] (fun i wi=>∃j:Nat,j≤n∧i= .int .i64 j∧Hid (Below w1.heap.size w1 wi)) (fun i _=>n - (intOf i).toNat)
  case atStart=>exact⟨0,Nat.zero_le _,rfl,HX⟩
  case round=>
   clear HX q0 q1 q2 q3 q4 q5 q6;obtain⟨j,hj,rfl,HX⟩:=hrel;obtain⟨q0,q1,q2,q3,q4,q5,q6⟩:=HBX.out.keep HX.out HZ.out;dsimp only at q0 q1 q2 q3 q4 q5 q6;have c4:=HC4.out _ HX.out;by_cases hjn:j<n;rotate_left
   ·have hji:¬(j:Int)<(n:Int):=by omega
    go_wp2_with fail
    go_roundw;case rel=>exact⟨k+1,by omega,by go_num,HX⟩
    case measure=>simp[intOf];omega
   have hji:(j:Int)<(n:Int):=by omega
   have hjx:j<x.code.length:=by rw[HNN.out];exact hjn
   obtain⟨ac,eC,hac,i0,i1,i2⟩:=HCR.out.at_ hjx;have HIC:Hid (x.code[j] ∈x.code):=zH (List.getElem_mem hjx);generalize x.code[j]=ins at*
   obtain⟨op,a,b⟩:=ins;dsimp only at i0 i1 i2 HIC;rw[eC]at c4;obtain⟨v,hv⟩:∃v,jx m op a b=v:=⟨_,rfl⟩
   have HV:=zH hv;have HK:Hid (∀V,Below w1.heap.size w1 V→(fun w'=>w'.cell? ⟨w.heap.size,0,none⟩=some (.slice A0 m.classes.length k0)∧w'.cell? ⟨w.heap.size,1,none⟩=some (.slice Ab m.statics.length k1)∧w'.cell? ⟨w.heap.size,2,none⟩=some (.slice A2 m.ints.length k2)∧w'.cell? ⟨w.heap.size,3,none⟩=some (.slice (some ad) m.methods.length k3)∧w'.cell? ⟨w.heap.size,4,none⟩=some (.slice A4 m.entries.length k4)∧w'.cell? ⟨w.heap.size,5,none⟩=some (.int .i64 m.stack)∧w'.cell? ⟨w.heap.size,6,none⟩=some (.int .i64 m.heap)∧w'.cell? (zc (ad.add (k*8)) 4)=some (.slice (some ac) n hx.k4)∧w'.cell? (ac.add (j*3))=some (.int .i64 op)∧w'.cell? (zc (ac.add (j*3)) 1)=some (.int .i64 a)∧w'.cell? (zc (ac.add (j*3)) 2)=some (.int .i64 b)) V):=zH (fun V hV=>by
    obtain⟨d0,d1,d2,d3,d4,d5,d6⟩:=HBX.out.keep hV HZ.out;dsimp only at d0 d1 d2 d3 d4 d5 d6;have e4:=HC4.out _ hV;rw[eC]at e4;exact⟨d0,d1,d2,d3,d4,d5,d6,e4,(hV.cell (p:=ac.add (j*3)) (by rw[zt];exact hac)).trans i0,(hV.cell (p:=zc (ac.add (j*3)) 1) (by show(ac.add (j*3)).block<_;rw[zt];exact hac)).trans i1,(hV.cell (p:=zc (ac.add (j*3)) 2) (by show(ac.add (j*3)).block<_;rw[zt];exact hac)).trans i2⟩)
   clear i0 i1 i2 eC hv hac;have HXD:=zH HX.out.drew;go_upto_region 10 with fail
   clear q0 q1 q2 q3 q4 q5 q6 c4;go_region_held3 (fun w'=>w'.cell? ⟨w.heap.size,0,none⟩=some (.slice A0 m.classes.length k0)∧w'.cell? ⟨w.heap.size,1,none⟩=some (.slice Ab m.statics.length k1)∧w'.cell? ⟨w.heap.size,2,none⟩=some (.slice A2 m.ints.length k2)∧w'.cell? ⟨w.heap.size,3,none⟩=some (.slice (some ad) m.methods.length k3)∧w'.cell? ⟨w.heap.size,4,none⟩=some (.slice A4 m.entries.length k4)∧w'.cell? ⟨w.heap.size,5,none⟩=some (.int .i64 m.stack)∧w'.cell? ⟨w.heap.size,6,none⟩=some (.int .i64 m.heap)∧w'.cell? (zc (ad.add (k*8)) 4)=some (.slice (some ac) n hx.k4)∧w'.cell? (ac.add (j*3))=some (.int .i64 op)∧w'.cell? (zc (ac.add (j*3)) 1)=some (.int .i64 a)∧w'.cell? (zc (ac.add (j*3)) 2)=some (.int .i64 b)) (first|exact HK.out _ HXD.out|exact HK.out _ HX8.out|exact HK.out _ HX9.out) (first
    |(go_at_call 12;(with_reducible refine(qhc HI HXD HS HXM HIC HV).mono ?_);rintro e w8 ⟨rfl,hb⟩;have HX8:=zH (HXD.out.trans (hb.mono HXD.out.size));clear hb)
    |(go_at_call 13;(with_reducible refine(YU HI HX8 HM HXM HIC HV).mono ?_);rintro e w9 ⟨rfl,hb⟩;have HX9:=zH (HX8.out.trans (hb.mono HX8.out.size));clear hb))
   go_wp2_with fail
   go_roundw;case rel=>exact⟨j+1,by omega,by go_num,HX9⟩
   case measure=>simp[intOf];omega
end Go.Proofs.YtdbfllajopcccaaGreat
