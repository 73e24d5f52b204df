import Derived.Test.YtdbfllajopcccaaGreatFA01
namespace Go.Proofs.YtdbfllajopcccaaGreat
set_option maxRecDepth 100000
set_option linter.unusedVariables false
set_option linter.unusedSimpArgs false
open Go.ChangeShapes Go.WideShapes Go.ChangeAt Go.RowKit
theorem q6v(l m:List Int)(A A':Option Addr)(cap cap' B:Nat)(w:World)(hB:B≤w.heap.size)(h:zd zo 1 w B A cap l)(h':zd zo 1 w B A' cap' m):
  Calls Tryz.prog 35 #[.slice A l.length cap,.slice A' m.length cap'] w fun e w'=>e= .returned (.bool (decide (l=m)))∧Below w.heap.size w w':=by
 have hlc:=h.le;have hcm:=h.cap;have hlc':=h'.le;have hcm':=h'.cap;have HL:=zH h;have HM:=zH h';have HB:=zH hB;clear h h' hB;obtain⟨b,hb⟩:∃b,decide (l=m)=b:=⟨_,rfl⟩
 rw[hb];have E:=zH hb.symm;clear hb;by_cases hn:l.length=m.length
 ·have HLN:=zH hn;have hlen:m.length=l.length:=hn.symm;rw[hlen];clear hn;go_enter Tryz.func35,Tryz.ntmps35;go_wp2
  go_loopw [5] (fun i wr=>∃k:Nat,k≤l.length∧i= .int .i64 k∧Hid (l.take k=m.take k)∧Hid (Below w.heap.size w wr)) (fun i _=>l.length - (intOf i).toNat)
  case atStart=>exact⟨0,by omega,rfl,zH (by simp),zH (zb _ _)⟩
  case round=>
   obtain⟨k,hk,rfl,HN,HX⟩:=hrel;by_cases hlt:k<l.length
   ·have hltm:k<m.length:=by omega
    obtain⟨ad,rfl,hab,q0⟩:=(HL.out.below_to zo.keeps HX.out HB.out).row.at_ hlt;obtain⟨ad',rfl,hab',q0'⟩:=(HM.out.below_to zo.keeps HX.out HB.out).row.at_ hltm;have HNE:=zH (fun g=>YX hlt hltm g);have HEQ:=zH (fun g=>Vb hlt hltm HN.out g);generalize l[k]=t at*
    generalize m[k]=s at*
    rw[Nat.mul_one]at q0 q0';have r0:wr.cell? (ad.add k)=some (.int .i64 t):=q0;have r0':wr.cell? (ad'.add k)=some (.int .i64 s):=q0';by_cases hx:t=s
    ·obtain rfl:=hx;have E2:=zH (HEQ.out rfl);go_wp2_with fail
     go_quiet (fail)
     go_wp2
     go_roundw;case rel=>exact⟨k+1,by omega,by go_num,E2,zH (jf HX.out _)⟩
     case measure=>simp[intOf];omega
    ·have E2:=zH (show b=false by rw[E.out];exact decide_eq_false (HNE.out (by simpa using hx)));go_wp2_with fail
     go_quiet (fail)
     go_wp2
     go_ret;exact⟨by rw[E2.out];rfl,(jf HX.out _)⟩
   ·have E2:=zH (show b=true by rw[E.out];exact decide_eq_true (YL HLN.out k HN.out (by omega)));go_wp2_with fail
    go_ret;exact⟨by rw[E2.out];rfl,HX.out⟩
 ·have E2:=zH (show b=false by rw[E.out];exact decide_eq_false (fun g=>hn (by rw[g])));have hn':((l.length:Int)==(m.length:Int))=false:=beq_eq_false_iff_ne.mpr (by omega);go_enter Tryz.func35,Tryz.ntmps35;go_wp2
  go_ret;exact⟨by rw[E2.out];rfl,zb _ _⟩
end Go.Proofs.YtdbfllajopcccaaGreat
