import Derived.Test.YtcmiljnbmgkdnaaGreatFA14
namespace Go.Proofs.YtcmiljnbmgkdnaaGreat
set_option maxRecDepth 100000
set_option linter.unusedVariables false
set_option linter.unusedSimpArgs false
open Go.ChangeShapes Go.WideShapes Go.ChangeAt Go.RowKit
theorem q24(en n:Int)(w:World):Calls Tryz.prog 82 #[.int .i64 en,.int .i64 n] w fun e w'=>e= .returned (.bool (zS n 0 en))∧Below w.heap.size w w':=by
 by_cases h:0≤n
 ·by_cases g:n≤en
  ·have E:=zH (show zS n 0 en=true from Xh ⟨h,g⟩);go_enter Tryz.func82,Tryz.ntmps82;go_wp2
   go_ret;exact⟨by rw[E.out];first|rfl|simp[g],zb _ _⟩
  ·have E:=zH (show zS n 0 en=false from Xf (fun x=>g x.2));go_enter Tryz.func82,Tryz.ntmps82;go_wp2
   go_ret;exact⟨by rw[E.out];first|rfl|simp[g],zb _ _⟩
 ·have E:=zH (show zS n 0 en=false from Xf (fun x=>h x.1));go_enter Tryz.func82,Tryz.ntmps82;go_wp2
  go_ret;exact⟨by rw[E.out];first|rfl|simp[h],zb _ _⟩
theorem Jr{en n:Int}{r:Bool}{w:World}(H:Hid (zS n 0 en=r)):Calls Tryz.prog 82 #[.int .i64 en,.int .i64 n] w fun e w'=>e= .returned (.bool r)∧Below w.heap.size w w':=by
 have h:=q24 en n w;rw[H.out]at h;exact h
theorem qbc(n:Int)(w:World):Calls Tryz.prog 81 #[.int .i64 n] w fun e w'=>e= .returned (.bool (zS n 0 11))∧Below w.heap.size w w':=by
 go_enter Tryz.func81,Tryz.ntmps81;go_wp2_with(go_at_call 82;(with_reducible refine(q24 _ _ _).mono ?_);rintro e w' ⟨rfl,hb⟩)
 go_ret;exact⟨rfl,hb⟩
theorem q5j(n:Int)(w:World):Calls Tryz.prog 125 #[.int .i64 n] w fun e w'=>e= .returned (.bool (zS n 0 4096))∧Below w.heap.size w w':=by
 go_enter Tryz.func125,Tryz.ntmps125;go_wp2_with(go_at_call 82;(with_reducible refine(q24 _ _ _).mono ?_);rintro e w' ⟨rfl,hb⟩)
 go_ret;exact⟨rfl,hb⟩
theorem q5i(t:Int×Int)(w:World):Calls Tryz.prog 77 #[zA t.1 t.2] w fun e w'=>e= .returned (.bool (qi t))∧Below w.heap.size w w':=by
 obtain⟨k,n⟩:=t;dsimp only;have HW:=zH ((zb w.heap.size w).alloc (zn _) (.cells #[.int .i64 k,.int .i64 n] 50));by_cases h3:k=3
 ·subst h3;have E:=zH (show qi (3,n)=zS n 0 7 by unfold qi zS;rw[Wa];dsimp only;omega);go_enter Tryz.func77,Tryz.ntmps77;go_wp2_with(go_at_call 82;(with_reducible refine(q24 _ _ _).mono ?_);rintro e w' ⟨rfl,hb⟩)
  go_ret;exact⟨by rw[E.out];rfl,HW.out.trans (hb.mono HW.out.size)⟩
 ·have h3':(k==3)=false:=by simpa using h3
  obtain⟨r,hr⟩:∃r,zS k 0 5=r:=⟨_,rfl⟩
  have R:=zH hr;have E:=zH (show qi (k,n)=(r&& decide (n=0))by rw[←hr];unfold qi zS;rw[XV];simp;omega);clear hr;cases r
  ·go_enter Tryz.func77,Tryz.ntmps77;go_wp2_with(go_at_call 82;(with_reducible refine(Jr R).mono ?_);rintro e w' ⟨rfl,hb⟩)
   go_ret;exact⟨by rw[E.out];rfl,HW.out.trans (hb.mono HW.out.size)⟩
  ·have c1:∀w',Below (w.alloc (.cells #[.int .i64 k,.int .i64 n] 50)).heap.size (w.alloc (.cells #[.int .i64 k,.int .i64 n] 50)) w'→w'.cell? ⟨w.heap.size,1,none⟩=some (.int .i64 n):=fun w' hb=>(hb.cell (p:=⟨w.heap.size,1,none⟩) (by simp)).trans (by rw[World.cell?_alloc_at _ _ _ _ rfl];rfl);have C1:=zH c1;clear c1;by_cases h0:n=0
   ·subst h0;go_enter Tryz.func77,Tryz.ntmps77;go_wp2_with(go_at_call 82;(with_reducible refine(Jr R).mono ?_);rintro e w' ⟨rfl,hb⟩;have q1:=C1.out _ hb)
    go_ret;exact⟨by rw[E.out];rfl,HW.out.trans (hb.mono HW.out.size)⟩
   ·have h0':(n==0)=false:=by simpa using h0
    go_enter Tryz.func77,Tryz.ntmps77;go_wp2_with(go_at_call 82;(with_reducible refine(Jr R).mono ?_);rintro e w' ⟨rfl,hb⟩;have q1:=C1.out _ hb)
    go_ret;exact⟨by rw[E.out];simp[h0],HW.out.trans (hb.mono HW.out.size)⟩
def ql{α:Type}(p:α→Bool)(l:List α)(n:Int):Bool:=decide ((l.length:Int)≤n)&& l.all p
theorem Vw{α:Type}{p:α→Bool}{l:List α}{n:Int}(h:¬(l.length:Int)≤n):ql p l n=false:=by unfold ql;rw[Xf h];rfl
theorem VB{α:Type}{p:α→Bool}{l:List α}{n:Int}(h:(l.length:Int)≤n):ql p l n=l.all p:=by unfold ql;rw[Xh h];rfl
theorem q26(l:List (Int×Int))(n:Int):ql qi l n=kL l n:=by
 unfold ql kL;rw[XV];simp
theorem q5k(l:List Int)(n most:Int):ql (fun x=>zS x 0 most) l n=kC l n most:=by
 unfold ql kC zS;rw[XV];simp
theorem Ve{P:Prop}(h:P:=by
 go_roundw;case rel=>exact⟨k+1,by omega,by go_num,zH (HYES.out R.out),HX1⟩
 case measure=>simp[intOf];omega):P:=h
set_option maxHeartbeats 1600000 in
theorem qgi(l:List (Int×Int))(n:Int)(A:Option Addr)(cap B:Nat)(w:World)(hB:B≤w.heap.size)(h:zd zh 2 w B A cap l):
  Calls Tryz.prog 76 #[.slice A l.length cap,.int .i64 n,.func (.func 77) #[] #[]] w fun e w'=>e= .returned (.bool (ql qi l n))∧Below w.heap.size w w':=by
 have hlc:=h.le;have hcm:=h.cap;have HL:=zH h;have HB:=zH hB;clear h hB;by_cases hn:n<l.length
 ·have E:=zH (Vw (p:=qi) (show ¬(l.length:Int)≤n by omega));go_enter Tryz.func76,Tryz.ntmps76;go_wp2
  go_ret;exact⟨by rw[E.out];rfl,zb _ _⟩
 ·have E:=zH (VB (p:=qi) (show(l.length:Int)≤n by omega));rw[E.out];clear E;go_enter Tryz.func76,Tryz.ntmps76;go_wp2
  go_loopw [15] (fun i wr=>∃k:Nat,k≤l.length∧i= .int .i64 k∧Hid (∀t ∈l.take k,qi t=true)∧Hid (Below w.heap.size w wr)) (fun i _=>l.length - (intOf i).toNat)
  case atStart=>exact⟨0,by omega,rfl,zH (by simp),zH (zb _ _)⟩
  case round=>
   obtain⟨k,hk,rfl,HN,HX⟩:=hrel;by_cases hlt:k<l.length
   ·obtain⟨ad,rfl,hab,q0,q1⟩:=(HL.out.below_to zh.keeps HX.out HB.out).row.at_ hlt;have HNOT:=zH (fun g:qi l[k]=false=>vb hlt g);have HYES:=zH (fun g:qi l[k]=true=>jT hlt HN.out g);generalize l[k]=t at*
    obtain⟨r,hr⟩:∃r,qi t=r:=⟨_,rfl⟩
    have R:=zH hr;clear hr;have HA:=zH (HX.out.alloc HX.out.size (.cells #[.int .i64 t.1,.int .i64 t.2] 50));cases r
    ·go_wp2_with(go_at_call 77;(with_reducible refine(q5i t _).mono ?_);rintro e w1 ⟨he,hb⟩;rw[R.out]at he;subst he;have HX1:=zl HA hb;clear hb)
     go_ret;exact⟨by rw[HNOT.out R.out];rfl,HX1.out⟩
    ·go_wp2_with(go_at_call 77;(with_reducible refine(q5i t _).mono ?_);rintro e w1 ⟨he,hb⟩;rw[R.out]at he;subst he;have HX1:=zl HA hb;clear hb)
     exact Ve
   ·go_wp2_with fail
    go_ret;exact⟨by rw[vc HN.out (by omega)];rfl,HX.out⟩
def ZB(x:Int):Bool:=zS x 0 11
def Ze(x:Int):Bool:=zS x 0 4096
set_option maxHeartbeats 1600000 in
theorem qjh(l:List (Int))(n:Int)(A:Option Addr)(cap B:Nat)(w:World)(hB:B≤w.heap.size)(h:zd zq 1 w B A cap l):
  Calls Tryz.prog 80 #[.slice A l.length cap,.int .i64 n,.func (.func 81) #[] #[]] w fun e w'=>e= .returned (.bool (ql ZB l n))∧Below w.heap.size w w':=by
 have hlc:=h.le;have hcm:=h.cap;have HL:=zH h;have HB:=zH hB;clear h hB;by_cases hn:n<l.length
 ·have E:=zH (Vw (p:=ZB) (show ¬(l.length:Int)≤n by omega));go_enter Tryz.func80,Tryz.ntmps80;go_wp2
  go_ret;exact⟨by rw[E.out];rfl,zb _ _⟩
 ·have E:=zH (VB (p:=ZB) (show(l.length:Int)≤n by omega));rw[E.out];clear E;go_enter Tryz.func80,Tryz.ntmps80;go_wp2
  go_loopw [15] (fun i wr=>∃k:Nat,k≤l.length∧i= .int .i64 k∧Hid (∀t ∈l.take k,ZB t=true)∧Hid (Below w.heap.size w wr)) (fun i _=>l.length - (intOf i).toNat)
  case atStart=>exact⟨0,by omega,rfl,zH (by simp),zH (zb _ _)⟩
  case round=>
   obtain⟨k,hk,rfl,HN,HX⟩:=hrel;by_cases hlt:k<l.length
   ·obtain⟨ad,rfl,hab,q0⟩:=(HL.out.below_to zq.keeps HX.out HB.out).row.at_ hlt;have HNOT:=zH (fun g:ZB l[k]=false=>vb hlt g);have HYES:=zH (fun g:ZB l[k]=true=>jT hlt HN.out g);rw[Xq]at q0;have q0':wr.cell? (ad.add k)=some (.int .i64 l[k]):=q0;clear q0;generalize l[k]=t at*
    obtain⟨r,hr⟩:∃r,ZB t=r:=⟨_,rfl⟩
    have R:=zH hr;clear hr;have HA:=HX;cases r
    ·go_wp2_with(go_at_call 81;(with_reducible refine(qbc t _).mono ?_);rintro e w1 ⟨he,hb⟩;rw[show zS t 0 11=_ from R.out]at he;subst he;have HX1:=zl HA hb;clear hb)
     go_ret;exact⟨by rw[HNOT.out R.out];rfl,HX1.out⟩
    ·go_wp2_with(go_at_call 81;(with_reducible refine(qbc t _).mono ?_);rintro e w1 ⟨he,hb⟩;rw[show zS t 0 11=_ from R.out]at he;subst he;have HX1:=zl HA hb;clear hb)
     exact Ve
   ·go_wp2_with fail
    go_ret;exact⟨by rw[vc HN.out (by omega)];rfl,HX.out⟩
set_option maxHeartbeats 1600000 in
theorem qjg(l:List (Int))(n:Int)(A:Option Addr)(cap B:Nat)(w:World)(hB:B≤w.heap.size)(h:zd zq 1 w B A cap l):
  Calls Tryz.prog 80 #[.slice A l.length cap,.int .i64 n,.func (.func 125) #[] #[]] w fun e w'=>e= .returned (.bool (ql Ze l n))∧Below w.heap.size w w':=by
 have hlc:=h.le;have hcm:=h.cap;have HL:=zH h;have HB:=zH hB;clear h hB;by_cases hn:n<l.length
 ·have E:=zH (Vw (p:=Ze) (show ¬(l.length:Int)≤n by omega));go_enter Tryz.func80,Tryz.ntmps80;go_wp2
  go_ret;exact⟨by rw[E.out];rfl,zb _ _⟩
 ·have E:=zH (VB (p:=Ze) (show(l.length:Int)≤n by omega));rw[E.out];clear E;go_enter Tryz.func80,Tryz.ntmps80;go_wp2
  go_loopw [15] (fun i wr=>∃k:Nat,k≤l.length∧i= .int .i64 k∧Hid (∀t ∈l.take k,Ze t=true)∧Hid (Below w.heap.size w wr)) (fun i _=>l.length - (intOf i).toNat)
  case atStart=>exact⟨0,by omega,rfl,zH (by simp),zH (zb _ _)⟩
  case round=>
   obtain⟨k,hk,rfl,HN,HX⟩:=hrel;by_cases hlt:k<l.length
   ·obtain⟨ad,rfl,hab,q0⟩:=(HL.out.below_to zq.keeps HX.out HB.out).row.at_ hlt;have HNOT:=zH (fun g:Ze l[k]=false=>vb hlt g);have HYES:=zH (fun g:Ze l[k]=true=>jT hlt HN.out g);rw[Xq]at q0;have q0':wr.cell? (ad.add k)=some (.int .i64 l[k]):=q0;clear q0;generalize l[k]=t at*
    obtain⟨r,hr⟩:∃r,Ze t=r:=⟨_,rfl⟩
    have R:=zH hr;clear hr;have HA:=HX;cases r
    ·go_wp2_with(go_at_call 125;(with_reducible refine(q5j t _).mono ?_);rintro e w1 ⟨he,hb⟩;rw[show zS t 0 4096=_ from R.out]at he;subst he;have HX1:=zl HA hb;clear hb)
     go_ret;exact⟨by rw[HNOT.out R.out];rfl,HX1.out⟩
    ·go_wp2_with(go_at_call 125;(with_reducible refine(q5j t _).mono ?_);rintro e w1 ⟨he,hb⟩;rw[show zS t 0 4096=_ from R.out]at he;subst he;have HX1:=zl HA hb;clear hb)
     exact Ve
   ·go_wp2_with fail
    go_ret;exact⟨by rw[vc HN.out (by omega)];rfl,HX.out⟩
def QO(i:Int×Int×Int):Bool:=qp i.1 i.2.1 i.2.2
set_option maxHeartbeats 1600000 in
theorem qji(l:List (Int×Int×Int))(n:Int)(A:Option Addr)(cap B:Nat)(w:World)(hB:B≤w.heap.size)(h:zd jb 3 w B A cap l):
  Calls Tryz.prog 123 #[.slice A l.length cap,.int .i64 n,.func (.func 124) #[] #[]] w fun e w'=>e= .returned (.bool (ql QO l n))∧Below w.heap.size w w':=by
 have hlc:=h.le;have hcm:=h.cap;have HL:=zH h;have HB:=zH hB;clear h hB;by_cases hn:n<l.length
 ·have E:=zH (Vw (p:=QO) (show ¬(l.length:Int)≤n by omega));go_enter Tryz.func123,Tryz.ntmps123;go_wp2
  go_ret;exact⟨by rw[E.out];rfl,zb _ _⟩
 ·have E:=zH (VB (p:=QO) (show(l.length:Int)≤n by omega));rw[E.out];clear E;go_enter Tryz.func123,Tryz.ntmps123;go_wp2
  go_loopw [15] (fun i wr=>∃k:Nat,k≤l.length∧i= .int .i64 k∧Hid (∀t ∈l.take k,QO t=true)∧Hid (Below w.heap.size w wr)) (fun i _=>l.length - (intOf i).toNat)
  case atStart=>exact⟨0,by omega,rfl,zH (by simp),zH (zb _ _)⟩
  case round=>
   obtain⟨k,hk,rfl,HN,HX⟩:=hrel;by_cases hlt:k<l.length
   ·obtain⟨ad,rfl,hab,q0,q1,q2⟩:=(HL.out.below_to jb.keeps HX.out HB.out).row.at_ hlt;have HNOT:=zH (fun g:QO l[k]=false=>vb hlt g);have HYES:=zH (fun g:QO l[k]=true=>jT hlt HN.out g);generalize l[k]=t at*
    obtain⟨r,hr⟩:∃r,QO t=r:=⟨_,rfl⟩
    have R:=zH hr;clear hr;have HA:=zH (HX.out.alloc HX.out.size (.cells #[.int .i64 t.1,.int .i64 t.2.1,.int .i64 t.2.2] 55));cases r
    ·go_wp2_with(go_at_call 124;(with_reducible refine(qbe t.1 t.2.1 t.2.2 _).mono ?_);rintro e w1 ⟨he,hb⟩;rw[show qp t.1 t.2.1 t.2.2=_ from R.out]at he;subst he;have HX1:=zl HA hb;clear hb)
     go_ret;exact⟨by rw[HNOT.out R.out];rfl,HX1.out⟩
    ·go_wp2_with(go_at_call 124;(with_reducible refine(qbe t.1 t.2.1 t.2.2 _).mono ?_);rintro e w1 ⟨he,hb⟩;rw[show qp t.1 t.2.1 t.2.2=_ from R.out]at he;subst he;have HX1:=zl HA hb;clear hb)
     exact Ve
   ·go_wp2_with fail
    go_ret;exact⟨by rw[vc HN.out (by omega)];rfl,HX.out⟩
theorem VX{l:List (Int×Int)}{n:Int}{A:Option Addr}{cap B:Nat}{w0 w:World}{r:Bool}(HL:Hid (zd zh 2 w0 B A cap l))(HB:Hid (B≤w0.heap.size))(HX:Hid (Below w0.heap.size w0 w))(HR:Hid (ql qi l n=r)):
  Calls Tryz.prog 76 #[.slice A l.length cap,.int .i64 n,.func (.func 77) #[] #[]] w fun e w'=>e= .returned (.bool r)∧Below w.heap.size w w':=by
 have h:=qgi l n A cap B w (Xg HB.out HX.out.size) (HL.out.below_to zh.keeps HX.out HB.out);rw[HR.out]at h;exact h
theorem q4x{l:List (Int)}{n:Int}{A:Option Addr}{cap B:Nat}{w0 w:World}{r:Bool}(HL:Hid (zd zq 1 w0 B A cap l))(HB:Hid (B≤w0.heap.size))(HX:Hid (Below w0.heap.size w0 w))(HR:Hid (ql ZB l n=r)):
  Calls Tryz.prog 80 #[.slice A l.length cap,.int .i64 n,.func (.func 81) #[] #[]] w fun e w'=>e= .returned (.bool r)∧Below w.heap.size w w':=by
 have h:=qjh l n A cap B w (Xg HB.out HX.out.size) (HL.out.below_to zq.keeps HX.out HB.out);rw[HR.out]at h;exact h
theorem qo4{l:List (Int)}{n:Int}{A:Option Addr}{cap B:Nat}{w0 w:World}{r:Bool}(HL:Hid (zd zq 1 w0 B A cap l))(HB:Hid (B≤w0.heap.size))(HX:Hid (Below w0.heap.size w0 w))(HR:Hid (ql Ze l n=r)):
  Calls Tryz.prog 80 #[.slice A l.length cap,.int .i64 n,.func (.func 125) #[] #[]] w fun e w'=>e= .returned (.bool r)∧Below w.heap.size w w':=by
 have h:=qjg l n A cap B w (Xg HB.out HX.out.size) (HL.out.below_to zq.keeps HX.out HB.out);rw[HR.out]at h;exact h
theorem qo5{l:List (Int×Int×Int)}{n:Int}{A:Option Addr}{cap B:Nat}{w0 w:World}{r:Bool}(HL:Hid (zd jb 3 w0 B A cap l))(HB:Hid (B≤w0.heap.size))(HX:Hid (Below w0.heap.size w0 w))(HR:Hid (ql QO l n=r)):
  Calls Tryz.prog 123 #[.slice A l.length cap,.int .i64 n,.func (.func 124) #[] #[]] w fun e w'=>e= .returned (.bool r)∧Below w.heap.size w w':=by
 have h:=qji l n A cap B w (Xg HB.out HX.out.size) (HL.out.below_to jb.keeps HX.out HB.out);rw[HR.out]at h;exact h
theorem quj{t:Int×Int}{w:World}{r:Bool}(HR:Hid (qi t=r)):Calls Tryz.prog 77 #[zA t.1 t.2] w fun e w'=>e= .returned (.bool r)∧Below w.heap.size w w':=by
 have h:=q5i t w;rw[HR.out]at h;exact h
theorem quk{n:Int}{w:World}{r:Bool}(HR:Hid (Ze n=r)):Calls Tryz.prog 125 #[.int .i64 n] w fun e w'=>e= .returned (.bool r)∧Below w.heap.size w w':=by
 have h:=q5j n w;rw[show zS n 0 4096=r from HR.out]at h;exact h
theorem qq6{n:Int}(h: -9223372036854775808≤n∧n≤9223372036854775807):zS (wrap64 (n+1)) 0 8=zS n (-1) 7:=by
 unfold zS wrap64;rw[Wa];omega
theorem qsp(c:zO)(h: -9223372036854775808≤c.sup∧c.sup≤9223372036854775807):jZ c=(zS (wrap64 (c.sup+1)) 0 8&& (ql qi c.fields 8&& ql ZB c.slots 4)):=by
 rw[qq6 h,q26,show ql ZB c.slots 4=kC c.slots 4 11 from q5k ..];rfl
theorem qrm(x:zf):qY x=(ql qi x.args 4&& (ql qi x.locals 8&& (qi x.ret&& (ql QO x.code 64&& (zS x.depth 0 8&& (Ze x.pot&& ql Ze x.phi 64)))))):=by
 rw[q26,q26,show ql Ze x.phi 64=kC x.phi 64 4096 from q5k ..];unfold qY VL ql QO Ze
 ac_rfl
theorem qok(m:za):zT m=(ql jZ m.classes 8&& (ql qi m.statics 8&& (decide ((m.ints.length:Int)≤16)&& (ql qY m.methods 12&& (ql ZB m.entries 12&& (zS m.stack 0 4096&& zS m.heap 0 4096)))))):=by
 rw[q26,show ql ZB m.entries 12=kC m.entries 12 11 from q5k ..];unfold zT Zu ql
 ac_rfl
set_option maxHeartbeats 1600000 in
theorem qd0(c:zO)(A1 A2:Option Addr)(k1 k2 B:Nat)(w:World)(hB:B≤w.heap.size)(h1:zd zh 2 w B A1 k1 c.fields)(h2:zd zq 1 w B A2 k2 c.slots)(hr: -9223372036854775808≤c.sup∧c.sup≤9223372036854775807):
  Calls Tryz.prog 75 #[.agg #[.int .i64 c.sup,.slice A1 c.fields.length k1,.slice A2 c.slots.length k2]] w fun e w'=>e= .returned (.bool (jZ c))∧Below w.heap.size w w':=by
 have HW:=zH ((zb w.heap.size w).alloc (zn _) (.cells #[.int .i64 c.sup,.slice A1 c.fields.length k1,.slice A2 c.slots.length k2] 81));have HZ2:Hid (w.heap.size<(w.alloc (.cells #[.int .i64 c.sup,.slice A1 c.fields.length k1,.slice A2 c.slots.length k2] 81)).heap.size):=zH (by simp);have HBC:=zH (qa w [.int .i64 c.sup,.slice A1 c.fields.length k1,.slice A2 c.slots.length k2] 81);have HB2:=zH (Xg hB HW.out.size);have HSf:=zH (h1.below_to zh.keeps HW.out hB);have HSs:=zH (h2.below_to zq.keeps HW.out hB);clear h1 h2;obtain⟨d0,hd0⟩:∃b,zS (wrap64 (c.sup+1)) 0 8=b:=⟨_,rfl⟩
 have D0:=zH hd0;obtain⟨d1,hd1⟩:∃b,ql qi c.fields 8=b:=⟨_,rfl⟩
 have D1:=zH hd1;obtain⟨d2,hd2⟩:∃b,ql ZB c.slots 4=b:=⟨_,rfl⟩
 have D2:=zH hd2;have E0:=qsp c hr;rw[hd0,hd1,hd2]at E0;have E:=zH E0;clear E0 hB hr hd0 hd1 hd2;go_enter Tryz.func75,Tryz.ntmps75;go_upto_region 1 with fail
 generalize w.alloc (.cells #[.int .i64 c.sup,.slice A1 c.fields.length k1,.slice A2 c.slots.length k2] 81)=w2 at*
 have HX2:Hid (Below w2.heap.size w2 w2):=zH (zb _ _);obtain⟨r0,r1,r2⟩:=zM HBC.out;cases d0;rotate_left;cases d1;rotate_left;cases d2;iterate 4
  ·go_wp2_with((first|(go_at_call 82;(with_reducible refine(Jr D0).mono ?_))|(go_at_call 76;(with_reducible refine(VX HSf HB2 HX2 D1).mono ?_))|(go_at_call 80;(with_reducible refine(q4x HSs HB2 HX2 D2).mono ?_)));rintro e w' ⟨rfl,hb⟩;have HX2:=zl HX2 hb;obtain⟨r0,r1,r2⟩:=zM (HBC.out.keep HX2.out HZ2.out);clear hb)
   go_ret;exact⟨by rw[E.out];first|rfl|simp[*],HW.out.trans (HX2.out.mono HW.out.size)⟩
set_option maxHeartbeats 3200000 in
theorem qcz(x:zf)(A0 A1 A4 A7:Option Addr)(k0 k1 k4 k7 B:Nat)(w:World)(hB:B≤w.heap.size)(h0:zd zh 2 w B A0 k0 x.args)(h1:zd zh 2 w B A1 k1 x.locals)(h4:zd jb 3 w B A4 k4 x.code)(h7:zd zq 1 w B A7 k7 x.phi):
  Calls Tryz.prog 79 #[.agg #[.slice A0 x.args.length k0,.slice A1 x.locals.length k1,.int .i64 x.ret.1,.int .i64 x.ret.2,.slice A4 x.code.length k4,.int .i64 x.depth,.int .i64 x.pot,.slice A7 x.phi.length k7]] w fun e w'=>e= .returned (.bool (qY x))∧Below w.heap.size w w':=by
 have HW:=zH ((zb w.heap.size w).alloc (zn _) (.cells #[.slice A0 x.args.length k0,.slice A1 x.locals.length k1,.int .i64 x.ret.1,.int .i64 x.ret.2,.slice A4 x.code.length k4,.int .i64 x.depth,.int .i64 x.pot,.slice A7 x.phi.length k7] 53));have HZ2:Hid (w.heap.size<(w.alloc (.cells #[.slice A0 x.args.length k0,.slice A1 x.locals.length k1,.int .i64 x.ret.1,.int .i64 x.ret.2,.slice A4 x.code.length k4,.int .i64 x.depth,.int .i64 x.pot,.slice A7 x.phi.length k7] 53)).heap.size):=zH (by simp);have HBC:=zH (qa w [.slice A0 x.args.length k0,.slice A1 x.locals.length k1,.int .i64 x.ret.1,.int .i64 x.ret.2,.slice A4 x.code.length k4,.int .i64 x.depth,.int .i64 x.pot,.slice A7 x.phi.length k7] 53);have HB2:=zH (Xg hB HW.out.size);have HSa:=zH (h0.below_to zh.keeps HW.out hB);have HSl:=zH (h1.below_to zh.keeps HW.out hB);have HSc:=zH (h4.below_to jb.keeps HW.out hB);have HSp:=zH (h7.below_to zq.keeps HW.out hB);clear h0 h1 h4 h7;obtain⟨d0,hd0⟩:∃b,ql qi x.args 4=b:=⟨_,rfl⟩
 have D0:=zH hd0;obtain⟨d1,hd1⟩:∃b,ql qi x.locals 8=b:=⟨_,rfl⟩
 have D1:=zH hd1;obtain⟨d2,hd2⟩:∃b,qi x.ret=b:=⟨_,rfl⟩
 have D2:=zH hd2;obtain⟨d3,hd3⟩:∃b,ql QO x.code 64=b:=⟨_,rfl⟩
 have D3:=zH hd3;obtain⟨d4,hd4⟩:∃b,zS x.depth 0 8=b:=⟨_,rfl⟩
 have D4:=zH hd4;obtain⟨d5,hd5⟩:∃b,Ze x.pot=b:=⟨_,rfl⟩
 have D5:=zH hd5;obtain⟨d6,hd6⟩:∃b,ql Ze x.phi 64=b:=⟨_,rfl⟩
 have D6:=zH hd6;have E0:=qrm x;rw[hd0,hd1,hd2,hd3,hd4,hd5,hd6]at E0;have E:=zH E0;clear E0 hB hd0 hd1 hd2 hd3 hd4 hd5 hd6;go_enter Tryz.func79,Tryz.ntmps79;go_upto_region 1 with fail
 generalize w.alloc (.cells #[.slice A0 x.args.length k0,.slice A1 x.locals.length k1,.int .i64 x.ret.1,.int .i64 x.ret.2,.slice A4 x.code.length k4,.int .i64 x.depth,.int .i64 x.pot,.slice A7 x.phi.length k7] 53)=w2 at*
 have HX2:Hid (Below w2.heap.size w2 w2):=zH (zb _ _);obtain⟨r0,r1,r2,r3,r4,r5,r6,r7⟩:=ck8 HBC.out;cases d0;rotate_left;cases d1;rotate_left;cases d2;rotate_left;cases d3;rotate_left;cases d4;rotate_left;cases d5;rotate_left;cases d6;iterate 8
  ·go_wp2_with((first|(go_at_call 76;(with_reducible refine(VX HSa HB2 HX2 D0).mono ?_))|(go_at_call 76;(with_reducible refine(VX HSl HB2 HX2 D1).mono ?_))|(go_at_call 77;(with_reducible refine(quj D2).mono ?_))|(go_at_call 123;(with_reducible refine(qo5 HSc HB2 HX2 D3).mono ?_))|(go_at_call 82;(with_reducible refine(Jr D4).mono ?_))|(go_at_call 125;(with_reducible refine(quk D5).mono ?_))|(go_at_call 80;(with_reducible refine(qo4 HSp HB2 HX2 D6).mono ?_)));rintro e w' ⟨rfl,hb⟩;have HX2:=zl HX2 hb;obtain⟨r0,r1,r2,r3,r4,r5,r6,r7⟩:=ck8 (HBC.out.keep HX2.out HZ2.out);clear hb)
   go_ret;exact⟨by rw[E.out];first|rfl|simp[*],HW.out.trans (HX2.out.mono HW.out.size)⟩
set_option maxHeartbeats 1600000 in
theorem qf9(l:List (zO))(n:Int)(A:Option Addr)(cap B:Nat)(w:World)(hB:B≤w.heap.size)(h:zd jW 3 w B A cap l):
  Calls Tryz.prog 74 #[.slice A l.length cap,.int .i64 n,.func (.func 75) #[] #[]] w fun e w'=>e= .returned (.bool (ql jZ l n))∧Below w.heap.size w w':=by
 have hlc:=h.le;have hcm:=h.cap;have HL:=zH h;have HB:=zH hB;clear h hB;by_cases hn:n<l.length
 ·have E:=zH (Vw (p:=jZ) (show ¬(l.length:Int)≤n by omega));go_enter Tryz.func74,Tryz.ntmps74;go_wp2
  go_ret;exact⟨by rw[E.out];rfl,zb _ _⟩
 ·have E:=zH (VB (p:=jZ) (show(l.length:Int)≤n by omega));rw[E.out];clear E;go_enter Tryz.func74,Tryz.ntmps74;go_wp2
  go_loopw [15] (fun i wr=>∃k:Nat,k≤l.length∧i= .int .i64 k∧Hid (∀t ∈l.take k,jZ t=true)∧Hid (Below w.heap.size w wr)) (fun i _=>l.length - (intOf i).toNat)
  case atStart=>exact⟨0,by omega,rfl,zH (by simp),zH (zb _ _)⟩
  case round=>
   obtain⟨k,hk,rfl,HN,HX⟩:=hrel;by_cases hlt:k<l.length
   ·obtain⟨ad,rfl,hab,s0,⟨A1,k1,s1,hs1⟩,⟨A2,k2,s2,hs2⟩,hrg⟩:=(HL.out.below_to jW.keeps HX.out HB.out).row.at_ hlt;have HNOT:=zH (fun g:jZ l[k]=false=>vb hlt g);have HYES:=zH (fun g:jZ l[k]=true=>jT hlt HN.out g);generalize l[k]=t at*
    obtain⟨r,hr⟩:∃r,jZ t=r:=⟨_,rfl⟩
    have R:=zH hr;clear hr;have HA:=zH (HX.out.alloc HX.out.size (.cells #[.int .i64 t.sup,.slice A1 t.fields.length k1,.slice A2 t.slots.length k2] 81));have hBr:B≤wr.heap.size:=Xg HB.out HX.out.size;have HBr2:Hid (B≤(wr.alloc (.cells #[.int .i64 t.sup,.slice A1 t.fields.length k1,.slice A2 t.slots.length k2] 81)).heap.size):=zH (Xg hBr (by simp));have HSf:=zH (hs1.below_to zh.keeps ((zb wr.heap.size wr).alloc (zn _) (.cells #[.int .i64 t.sup,.slice A1 t.fields.length k1,.slice A2 t.slots.length k2] 81)) hBr);have HSs:=zH (hs2.below_to zq.keeps ((zb wr.heap.size wr).alloc (zn _) (.cells #[.int .i64 t.sup,.slice A1 t.fields.length k1,.slice A2 t.slots.length k2] 81)) hBr);clear hBr hs1 hs2;have HRG:=zH hrg;clear hrg;cases r
    ·go_wp2_with(go_at_call 75;(with_reducible refine(qd0 t A1 A2 k1 k2 B _ HBr2.out HSf.out HSs.out HRG.out).mono ?_);rintro e w1 ⟨he,hb⟩;rw[R.out]at he;subst he;have HX1:=zl HA hb;clear hb)
     go_ret;exact⟨by rw[HNOT.out R.out];rfl,HX1.out⟩
    ·go_wp2_with(go_at_call 75;(with_reducible refine(qd0 t A1 A2 k1 k2 B _ HBr2.out HSf.out HSs.out HRG.out).mono ?_);rintro e w1 ⟨he,hb⟩;rw[R.out]at he;subst he;have HX1:=zl HA hb;clear hb)
     exact Ve
   ·go_wp2_with fail
    go_ret;exact⟨by rw[vc HN.out (by omega)];rfl,HX.out⟩
set_option maxHeartbeats 1600000 in
theorem qf8(l:List (zf))(n:Int)(A:Option Addr)(cap B:Nat)(w:World)(hB:B≤w.heap.size)(h:zd vN 8 w B A cap l):
  Calls Tryz.prog 78 #[.slice A l.length cap,.int .i64 n,.func (.func 79) #[] #[]] w fun e w'=>e= .returned (.bool (ql qY l n))∧Below w.heap.size w w':=by
 have hlc:=h.le;have hcm:=h.cap;have HL:=zH h;have HB:=zH hB;clear h hB;by_cases hn:n<l.length
 ·have E:=zH (Vw (p:=qY) (show ¬(l.length:Int)≤n by omega));go_enter Tryz.func78,Tryz.ntmps78;go_wp2
  go_ret;exact⟨by rw[E.out];rfl,zb _ _⟩
 ·have E:=zH (VB (p:=qY) (show(l.length:Int)≤n by omega));rw[E.out];clear E;go_enter Tryz.func78,Tryz.ntmps78;go_wp2
  go_loopw [15] (fun i wr=>∃k:Nat,k≤l.length∧i= .int .i64 k∧Hid (∀t ∈l.take k,qY t=true)∧Hid (Below w.heap.size w wr)) (fun i _=>l.length - (intOf i).toNat)
  case atStart=>exact⟨0,by omega,rfl,zH (by simp),zH (zb _ _)⟩
  case round=>
   obtain⟨k,hk,rfl,HN,HX⟩:=hrel;by_cases hlt:k<l.length
   ·obtain⟨ad,rfl,hab,⟨A0,k0,s0,hs0⟩,⟨A1,k1,s1,hs1⟩,s2,s3,⟨A4,k4,s4,hs4⟩,s5,s6,⟨A7,k7,s7,hs7⟩⟩:=(HL.out.below_to vN.keeps HX.out HB.out).row.at_ hlt;have HNOT:=zH (fun g:qY l[k]=false=>vb hlt g);have HYES:=zH (fun g:qY l[k]=true=>jT hlt HN.out g);generalize l[k]=t at*
    obtain⟨r,hr⟩:∃r,qY t=r:=⟨_,rfl⟩
    have R:=zH hr;clear hr;have HA:=zH (HX.out.alloc HX.out.size (.cells #[.slice A0 t.args.length k0,.slice A1 t.locals.length k1,.int .i64 t.ret.1,.int .i64 t.ret.2,.slice A4 t.code.length k4,.int .i64 t.depth,.int .i64 t.pot,.slice A7 t.phi.length k7] 53));have hBr:B≤wr.heap.size:=Xg HB.out HX.out.size;have HBr2:Hid (B≤(wr.alloc (.cells #[.slice A0 t.args.length k0,.slice A1 t.locals.length k1,.int .i64 t.ret.1,.int .i64 t.ret.2,.slice A4 t.code.length k4,.int .i64 t.depth,.int .i64 t.pot,.slice A7 t.phi.length k7] 53)).heap.size):=zH (Xg hBr (by simp));have HSa:=zH (hs0.below_to zh.keeps ((zb wr.heap.size wr).alloc (zn _) (.cells #[.slice A0 t.args.length k0,.slice A1 t.locals.length k1,.int .i64 t.ret.1,.int .i64 t.ret.2,.slice A4 t.code.length k4,.int .i64 t.depth,.int .i64 t.pot,.slice A7 t.phi.length k7] 53)) hBr);have HSl:=zH (hs1.below_to zh.keeps ((zb wr.heap.size wr).alloc (zn _) (.cells #[.slice A0 t.args.length k0,.slice A1 t.locals.length k1,.int .i64 t.ret.1,.int .i64 t.ret.2,.slice A4 t.code.length k4,.int .i64 t.depth,.int .i64 t.pot,.slice A7 t.phi.length k7] 53)) hBr);have HSc:=zH (hs4.below_to jb.keeps ((zb wr.heap.size wr).alloc (zn _) (.cells #[.slice A0 t.args.length k0,.slice A1 t.locals.length k1,.int .i64 t.ret.1,.int .i64 t.ret.2,.slice A4 t.code.length k4,.int .i64 t.depth,.int .i64 t.pot,.slice A7 t.phi.length k7] 53)) hBr);have HSp:=zH (hs7.below_to zq.keeps ((zb wr.heap.size wr).alloc (zn _) (.cells #[.slice A0 t.args.length k0,.slice A1 t.locals.length k1,.int .i64 t.ret.1,.int .i64 t.ret.2,.slice A4 t.code.length k4,.int .i64 t.depth,.int .i64 t.pot,.slice A7 t.phi.length k7] 53)) hBr);clear hBr hs0 hs1 hs4 hs7;cases r
    ·go_wp2_with(go_at_call 79;(with_reducible refine(qcz t A0 A1 A4 A7 k0 k1 k4 k7 B _ HBr2.out HSa.out HSl.out HSc.out HSp.out).mono ?_);rintro e w1 ⟨he,hb⟩;rw[R.out]at he;subst he;have HX1:=zl HA hb;clear hb)
     go_ret;exact⟨by rw[HNOT.out R.out];rfl,HX1.out⟩
    ·go_wp2_with(go_at_call 79;(with_reducible refine(qcz t A0 A1 A4 A7 k0 k1 k4 k7 B _ HBr2.out HSa.out HSl.out HSc.out HSp.out).mono ?_);rintro e w1 ⟨he,hb⟩;rw[R.out]at he;subst he;have HX1:=zl HA hb;clear hb)
     exact Ve
   ·go_wp2_with fail
    go_ret;exact⟨by rw[vc HN.out (by omega)];rfl,HX.out⟩
theorem q7j{l:List (zO)}{n:Int}{A:Option Addr}{cap B:Nat}{w0 w:World}{r:Bool}(HL:Hid (zd jW 3 w0 B A cap l))(HB:Hid (B≤w0.heap.size))(HX:Hid (Below w0.heap.size w0 w))(HR:Hid (ql jZ l n=r)):
  Calls Tryz.prog 74 #[.slice A l.length cap,.int .i64 n,.func (.func 75) #[] #[]] w fun e w'=>e= .returned (.bool r)∧Below w.heap.size w w':=by
 have h:=qf9 l n A cap B w (Xg HB.out HX.out.size) (HL.out.below_to jW.keeps HX.out HB.out);rw[HR.out]at h;exact h
theorem q7i{l:List (zf)}{n:Int}{A:Option Addr}{cap B:Nat}{w0 w:World}{r:Bool}(HL:Hid (zd vN 8 w0 B A cap l))(HB:Hid (B≤w0.heap.size))(HX:Hid (Below w0.heap.size w0 w))(HR:Hid (ql qY l n=r)):
  Calls Tryz.prog 78 #[.slice A l.length cap,.int .i64 n,.func (.func 79) #[] #[]] w fun e w'=>e= .returned (.bool r)∧Below w.heap.size w w':=by
 have h:=qf8 l n A cap B w (Xg HB.out HX.out.size) (HL.out.below_to vN.keeps HX.out HB.out);rw[HR.out]at h;exact h
theorem Vf{P:Prop}(h:P:=by
 go_wp2_with((first|(go_at_call 74;(with_reducible refine(q7j HS0 HB2 HX2 D0).mono ?_))|(go_at_call 76;(with_reducible refine(VX HS1 HB2 HX2 D1).mono ?_))|(go_at_call 78;(with_reducible refine(q7i HS3 HB2 HX2 D3).mono ?_))|(go_at_call 80;(with_reducible refine(q4x HS4 HB2 HX2 D4).mono ?_))|(go_at_call 82;(with_reducible refine(Jr D5).mono ?_))|(go_at_call 82;(with_reducible refine(Jr D6).mono ?_)));rintro e w' ⟨rfl,hb⟩;have HX2:=zl HX2 hb;obtain⟨r0,r1,r2,r3,r4,r5,r6⟩:=qt (HBC.out.keep HX2.out HZ2.out);clear hb)
 go_ret;exact⟨by rw[E.out];first|rfl|simp[*],HW.out.trans (HX2.out.mono HW.out.size)⟩):P:=h
set_option maxHeartbeats 3200000 in
theorem qbf(m:za)(h:zg)(B:Nat)(w:World)(hB:B≤w.heap.size)(H:zi w B h m):
  Calls Tryz.prog 48 #[zk h m] w fun e w'=>e= .returned (.bool (zT m))∧Below w.heap.size w w':=by
 have HW:=zH ((zb w.heap.size w).alloc (zn _) (.cells #[.slice h.A0 m.classes.length h.c0,.slice h.A1 m.statics.length h.c1,.slice h.A2 m.ints.length h.c2,.slice h.A3 m.methods.length h.c3,.slice h.A4 m.entries.length h.c4,.int .i64 m.stack,.int .i64 m.heap] 28));have HZ2:Hid (w.heap.size<(w.alloc (.cells #[.slice h.A0 m.classes.length h.c0,.slice h.A1 m.statics.length h.c1,.slice h.A2 m.ints.length h.c2,.slice h.A3 m.methods.length h.c3,.slice h.A4 m.entries.length h.c4,.int .i64 m.stack,.int .i64 m.heap] 28)).heap.size):=zH (by simp);have HBC:=zH (qa w [.slice h.A0 m.classes.length h.c0,.slice h.A1 m.statics.length h.c1,.slice h.A2 m.ints.length h.c2,.slice h.A3 m.methods.length h.c3,.slice h.A4 m.entries.length h.c4,.int .i64 m.stack,.int .i64 m.heap] 28);have HB2:=zH (Xg hB HW.out.size);have HM:=zH (H.below_to HW.out hB);have HS0:=zH HM.out.classes;have HS1:=zH HM.out.statics;have HS3:=zH HM.out.methods;have HS4:=zH HM.out.entries;have hi1:=H.ints.le;have hi2:=H.ints.cap;clear H;obtain⟨d0,hd0⟩:∃b,ql jZ m.classes 8=b:=⟨_,rfl⟩
 have D0:=zH hd0;obtain⟨d1,hd1⟩:∃b,ql qi m.statics 8=b:=⟨_,rfl⟩
 have D1:=zH hd1;obtain⟨d3,hd3⟩:∃b,ql qY m.methods 12=b:=⟨_,rfl⟩
 have D3:=zH hd3;obtain⟨d4,hd4⟩:∃b,ql ZB m.entries 12=b:=⟨_,rfl⟩
 have D4:=zH hd4;obtain⟨d5,hd5⟩:∃b,zS m.stack 0 4096=b:=⟨_,rfl⟩
 have D5:=zH hd5;obtain⟨d6,hd6⟩:∃b,zS m.heap 0 4096=b:=⟨_,rfl⟩
 have D6:=zH hd6;have E0:=qok m;rw[hd0,hd1,hd3,hd4,hd5,hd6]at E0;have E:=zH E0;clear E0 hB hd0 hd1 hd3 hd4 hd5 hd6;go_enter Tryz.func48,Tryz.ntmps48;go_upto_region 1 with fail
 generalize w.alloc (.cells #[.slice h.A0 m.classes.length h.c0,.slice h.A1 m.statics.length h.c1,.slice h.A2 m.ints.length h.c2,.slice h.A3 m.methods.length h.c3,.slice h.A4 m.entries.length h.c4,.int .i64 m.stack,.int .i64 m.heap] 28)=w2 at*
 have HX2:Hid (Below w2.heap.size w2 w2):=zH (zb _ _);obtain⟨r0,r1,r2,r3,r4,r5,r6⟩:=qt HBC.out;cases d0;rotate_left;cases d1;rotate_left;rotate_left;iterate 2
  ·exact Vf
 by_cases c2:(m.ints.length:Int)≤16
 ·cases d3
  ·exact Vf
  ·cases d4
   ·exact Vf
   ·cases d5
    ·exact Vf
    ·cases d6
     ·exact Vf
     ·exact Vf
 ·go_wp2_with((first|(go_at_call 74;(with_reducible refine(q7j HS0 HB2 HX2 D0).mono ?_))|(go_at_call 76;(with_reducible refine(VX HS1 HB2 HX2 D1).mono ?_))|(go_at_call 78;(with_reducible refine(q7i HS3 HB2 HX2 D3).mono ?_))|(go_at_call 80;(with_reducible refine(q4x HS4 HB2 HX2 D4).mono ?_))|(go_at_call 82;(with_reducible refine(Jr D5).mono ?_))|(go_at_call 82;(with_reducible refine(Jr D6).mono ?_)));rintro e w' ⟨rfl,hb⟩;have HX2:=zl HX2 hb;obtain⟨r0,r1,r2,r3,r4,r5,r6⟩:=qt (HBC.out.keep HX2.out HZ2.out);clear hb)
  go_ret;exact⟨by rw[E.out];rw[Xf (p:=(m.ints.length:Int)≤16) (by omega)];first|rfl|simp,HW.out.trans (HX2.out.mono HW.out.size)⟩
theorem qil{w w2:World}(hb:Below (w.alloc QB).heap.size (w.alloc QB) w2):zx w2 w2.heap.size (some ⟨w.heap.size,0,none⟩) (kD.map (Value.int .u8)):=fun j u hu=>by
 have hz:(w.alloc QB).heap.size=w.heap.size+1:=by simp
 have:=hb.size;exact⟨_,rfl,by show w.heap.size<_;omega,(hb.cell (p:=Addr.add ⟨w.heap.size,0,none⟩ j) (by rw[zp];show w.heap.size<_;omega)).trans (qim w j u hu)⟩
theorem qsr(l m:List Int)(A A':Option Addr)(cap cap' n n' B:Nat)(w:World)(hn:l.length=n)(hn':m.length=n')(hr:∀b ∈l,0≤b∧b≤255)(hr':∀b ∈m,0≤b∧b≤255)
  (h:zx w B A (l.map (Value.int .u8))) (h':zx w B A' (m.map (Value.int .u8))):
  Calls Tryz.prog 158 #[.slice A n cap,.slice A' n' cap'] w fun e w'=>e= .returned (.bool (decide (l=m)))∧w=w':=by
 subst hn hn';have E:=zH (str_eq hr hr');have k1:=qe5 (cap:=cap) h;have k2:=qe5 (cap:=cap') h';clear hr hr' h h';go_enter Tryz.func158,Tryz.ntmps158;go_wp2
 go_ret;exact⟨by rw[←E.out];rfl,rfl⟩
theorem qh2(l:List Int)(A:Option Addr)(cap B g:Nat)(w:World)(hl:l.length≤cap)(hc:cap≤9223372036854775807)(hr:∀b ∈l,0≤b∧b≤255)
  (h:zx w B A (l.map (Value.int .u8))) (h':zx w B (some ⟨g,0,none⟩) (kD.map (Value.int .u8))):
  Calls Tryz.prog 110 #[.slice A l.length cap,.slice (some ⟨g,0,none⟩) 4 4] w fun e w'=>e= .returned (.bool (decide (l.take 4=kD)))∧w=w':=by
 by_cases h4:l.length<4
 ·have E:=zH (show decide (l.take 4=kD)=false from Xf (fun e=>by have:=congrArg List.length e;simp[kD]at this;omega));go_enter Tryz.func110,Tryz.ntmps110;go_wp2
  go_ret;exact⟨by rw[E.out];rfl,rfl⟩
 ·have HE:=zH (fun c1=>qsr (l.take 4) kD A (some ⟨g,0,none⟩) c1 4 4 4 B w (by rw[XU];omega) rfl (fun b hb=>hr b (List.mem_of_mem_take hb)) (by simp[kD]) (by have:=h.take_ 4;rwa [←List.map_take]at this) h');clear hr h h';go_enter Tryz.func110,Tryz.ntmps110;go_wp2_with(go_at_call 158;(with_reducible refine(HE.out _).mono ?_);rintro e w' ⟨rfl,rfl⟩)
  go_ret;exact⟨rfl,rfl⟩
theorem qv0(l:List Int)(A:Option Addr)(cap B g:Nat)(w:World)(hl:l.length≤cap)(hc:cap≤9223372036854775807)(hr:∀b ∈l,0≤b∧b≤255)
  (h:zx w B A (l.map (Value.int .u8))) (h':zx w B (some ⟨g,0,none⟩) (kD.map (Value.int .u8))) (hn:¬l.take 4=kD):
  Calls Tryz.prog 67 #[.slice A l.length cap,.slice (some ⟨g,0,none⟩) 4 4] w fun e w'=>e= .returned (.tuple #[.slice A l.length cap,.bool false])∧w=w':=by
 have HE:=zH (qh2 l A cap B g w hl hc hr h h');rw[Xf hn]at HE;clear hr h h' hn;go_enter Tryz.func67,Tryz.ntmps67;go_wp2_with(go_at_call 110;(with_reducible refine HE.out.mono ?_);rintro e w' ⟨rfl,rfl⟩)
 go_ret2
 exact⟨rfl,rfl⟩
theorem qss{w:World}{g:Nat}(HP:Hid (zx w w.heap.size (some ⟨g,0,none⟩) (kD.map (Value.int .u8)))):
  Calls Tryz.prog 67 #[.slice none 0 0,.slice (some ⟨g,0,none⟩) 4 4] w fun e w'=>e= .returned (.tuple #[.slice none 0 0,.bool false])∧w=w':=
 qv0 [] none 0 w.heap.size g w (zn _) (by decide) (fun b hb=>by cases hb) (fun i v hi=>by cases hi) HP.out (by decide)
set_option maxHeartbeats 1600000 in
theorem qgj(w:World):Calls Tryz.prog 43 #[.slice none 0 0] w fun e w'=>e= .returned (.tuple #[.agg #[.slice none 0 0,.slice none 0 0,.slice none 0 0,.slice none 0 0,.slice none 0 0,.int .i64 0,.int .i64 0],.int .i64 2])∧Below w.heap.size w w':=by
 have hs1:(w.alloc kP).heap.size=w.heap.size+1:=by simp
 have kc:=qnc (w.alloc kP) (w.heap.size+1) (by simp);have hW1:Below w.heap.size w (w.alloc kP):=(zb _ _).alloc (zn _) _;have hW2:Below (w.alloc kP).heap.size (w.alloc kP) ((w.alloc kP).alloc QB):=(zb _ _).alloc (zn _) _;have HW:=zH (hW1.trans (hW2.mono hW1.size));have HPL:Hid (zx ((w.alloc kP).alloc QB) ((w.alloc kP).alloc QB).heap.size (some ⟨w.heap.size+1,0,none⟩) (kD.map (Value.int .u8))):=zH (by rw[←hs1];exact qil (zb _ _));have HJ0:Hid (((w.alloc kP).alloc QB).heap[w.heap.size]? =some (.cells img0L.toArray 28 (0,0))):=zH ((hW2.block _ (by omega)).trans (XO _ _));clear hs1 hW1 hW2;go_enter Tryz.func43,Tryz.ntmps43;go_upto_region 1 with fail
 go_wp2_with(go_at_call 67;(with_reducible refine(qss HPL).mono ?_);rintro e w' ⟨rfl,rfl⟩;have JJ:=HJ0.out;have p0:=Zi JJ 0 _ rfl;have p1:=Zi JJ 1 _ rfl;have p2:=Zi JJ 2 _ rfl;have p3:=Zi JJ 3 _ rfl;have p4:=Zi JJ 4 _ rfl;have p5:=Zi JJ 5 _ rfl;have p6:=Zi JJ 6 _ rfl;have g0:=Zh JJ 0;have g1:=Zh JJ 1;have g2:=Zh JJ 2;have g3:=Zh JJ 3;have g4:=Zh JJ 4;have g5:=Zh JJ 5;have g6:=Zh JJ 6;clear JJ)
 refine Xn (v:= .tuple #[.agg #[.slice none 0 0,.slice none 0 0,.slice none 0 0,.slice none 0 0,.slice none 0 0,.int .i64 0,.int .i64 0],.int .i64 2]) (by simp[results,Tryz.results43,go_sem,p0,p1,p2,p3,p4,p5,p6]) rfl ⟨rfl,HW.out⟩
set_option maxHeartbeats 1600000 in
theorem qlj(w:World):Calls Tryz.prog 17 #[.slice none 0 0] w fun e w'=>e= .returned (.tuple #[.agg #[.slice none 0 0,.slice none 0 0,.slice none 0 0,.slice none 0 0,.slice none 0 0,.int .i64 0,.int .i64 0],.slice none 0 0,.int .i64 2])∧Below w.heap.size w w':=by
 have HW:=zH ((zb w.heap.size w).alloc (zn _) kP);have HZ:Hid (w.heap.size<(w.alloc kP).heap.size):=zH (by simp);have HJ0:Hid ((w.alloc kP).heap[w.heap.size]? =some (.cells img0L.toArray 28 (0,0))):=zH (XO _ _);go_enter Tryz.func17,Tryz.ntmps17;go_upto_region 1 with fail
 generalize w.alloc kP=w1 at*
 go_wp2_with(go_at_call 43;(with_reducible refine(qgj _).mono ?_);rintro e w2 ⟨rfl,hb⟩;have hb3:=(zb w2.heap.size w2).alloc (zn _) kP;have HW2:=zH (HW.out.trans ((hb.trans (hb3.mono hb.size)).mono HW.out.size));have JJ:=((hb3.block _ (Xp HZ.out hb.size)).trans (hb.block _ HZ.out)).trans HJ0.out;clear hb hb3;have p0:=Zi JJ 0 _ rfl;have p1:=Zi JJ 1 _ rfl;have p2:=Zi JJ 2 _ rfl;have p3:=Zi JJ 3 _ rfl;have p4:=Zi JJ 4 _ rfl;have p5:=Zi JJ 5 _ rfl;have p6:=Zi JJ 6 _ rfl;have g0:=Zh JJ 0;have g1:=Zh JJ 1;have g2:=Zh JJ 2;have g3:=Zh JJ 3;have g4:=Zh JJ 4;have g5:=Zh JJ 5;have g6:=Zh JJ 6;clear JJ)
 refine Xn (v:= .tuple #[.agg #[.slice none 0 0,.slice none 0 0,.slice none 0 0,.slice none 0 0,.slice none 0 0,.int .i64 0,.int .i64 0],.slice none 0 0,.int .i64 2]) (by simp[results,Tryz.results17,go_sem,p0,p1,p2,p3,p4,p5,p6]) rfl ⟨rfl,ql8 HW2.out _ _ _ _ _ _ _⟩
end Go.Proofs.YtcmiljnbmgkdnaaGreat
