import Derived.Test.YtcmiljnbmgkdnaaGreatFB15
namespace Go.Proofs.YtcmiljnbmgkdnaaGreat
set_option maxRecDepth 100000
set_option linter.unusedVariables false
set_option linter.unusedSimpArgs false
open Go.ChangeShapes Go.WideShapes Go.ChangeAt Go.RowKit
theorem q2z(en n:Int)(w:World):Calls Tryz.prog 82 #[.int .i64 en,.int .i64 n] w fun e w'=>e= .returned (.bool (zP n 0 en))∧Below w.heap.size w w':=by
 by_cases h:0≤n
 ·by_cases g:n≤en
  ·have E:=zH (show zP n 0 en=true from Xm ⟨h,g⟩);go_enter Tryz.func82,Tryz.ntmps82;go_wp2
   go_ret;exact⟨by rw[E.out];first|rfl|simp[g],zb _ _⟩
  ·have E:=zH (show zP n 0 en=false from Xg (fun x=>g x.2));go_enter Tryz.func82,Tryz.ntmps82;go_wp2
   go_ret;exact⟨by rw[E.out];first|rfl|simp[g],zb _ _⟩
 ·have E:=zH (show zP n 0 en=false from Xg (fun x=>h x.1));go_enter Tryz.func82,Tryz.ntmps82;go_wp2
  go_ret;exact⟨by rw[E.out];first|rfl|simp[h],zb _ _⟩
theorem Jo{en n:Int}{r:Bool}{w:World}(H:Hid (zP n 0 en=r)):Calls Tryz.prog 82 #[.int .i64 en,.int .i64 n] w fun e w'=>e= .returned (.bool r)∧Below w.heap.size w w':=by
 have h:=q2z en n w;rw[H.out]at h;exact h
theorem qbs(n:Int)(w:World):Calls Tryz.prog 81 #[.int .i64 n] w fun e w'=>e= .returned (.bool (zP n 0 11))∧Below w.heap.size w w':=by
 go_enter Tryz.func81,Tryz.ntmps81;go_wp2_with(go_at_call 82;(with_reducible refine(q2z _ _ _).mono ?_);rintro e w' ⟨rfl,hb⟩)
 go_ret;exact⟨rfl,hb⟩
theorem q6e(n:Int)(w:World):Calls Tryz.prog 125 #[.int .i64 n] w fun e w'=>e= .returned (.bool (zP n 0 4096))∧Below w.heap.size w w':=by
 go_enter Tryz.func125,Tryz.ntmps125;go_wp2_with(go_at_call 82;(with_reducible refine(q2z _ _ _).mono ?_);rintro e w' ⟨rfl,hb⟩)
 go_ret;exact⟨rfl,hb⟩
theorem q6d(t:Int×Int)(w:World):Calls Tryz.prog 77 #[zU t.1 t.2] w fun e w'=>e= .returned (.bool (qd t))∧Below w.heap.size w w':=by
 obtain⟨k,n⟩:=t;dsimp only;have HW:=zH ((zb w.heap.size w).alloc (zn _) (.cells #[.int .i64 k,.int .i64 n] 50));by_cases h3:k=3
 ·subst h3;have E:=zH (show qd (3,n)=zP n 0 7 by unfold qd zP;rw[X8];dsimp only;omega);go_enter Tryz.func77,Tryz.ntmps77;go_wp2_with(go_at_call 82;(with_reducible refine(q2z _ _ _).mono ?_);rintro e w' ⟨rfl,hb⟩)
  go_ret;exact⟨by rw[E.out];rfl,HW.out.trans (hb.mono HW.out.size)⟩
 ·have h3':(k==3)=false:=by simpa using h3
  obtain⟨r,hr⟩:∃r,zP k 0 5=r:=⟨_,rfl⟩
  have R:=zH hr;have E:=zH (show qd (k,n)=(r&& decide (n=0))by rw[←hr];unfold qd zP;rw[XV];simp;omega);clear hr;cases r
  ·go_enter Tryz.func77,Tryz.ntmps77;go_wp2_with(go_at_call 82;(with_reducible refine(Jo R).mono ?_);rintro e w' ⟨rfl,hb⟩)
   go_ret;exact⟨by rw[E.out];rfl,HW.out.trans (hb.mono HW.out.size)⟩
  ·have c1:∀w',Below (w.alloc (.cells #[.int .i64 k,.int .i64 n] 50)).heap.size (w.alloc (.cells #[.int .i64 k,.int .i64 n] 50)) w'→w'.cell? ⟨w.heap.size,1,none⟩=some (.int .i64 n):=fun w' hb=>(hb.cell (p:=⟨w.heap.size,1,none⟩) (by simp)).trans (by rw[World.cell?_alloc_at _ _ _ _ rfl];rfl);have C1:=zH c1;clear c1;by_cases h0:n=0
   ·subst h0;go_enter Tryz.func77,Tryz.ntmps77;go_wp2_with(go_at_call 82;(with_reducible refine(Jo R).mono ?_);rintro e w' ⟨rfl,hb⟩;have q1:=C1.out _ hb)
    go_ret;exact⟨by rw[E.out];rfl,HW.out.trans (hb.mono HW.out.size)⟩
   ·have h0':(n==0)=false:=by simpa using h0
    go_enter Tryz.func77,Tryz.ntmps77;go_wp2_with(go_at_call 82;(with_reducible refine(Jo R).mono ?_);rintro e w' ⟨rfl,hb⟩;have q1:=C1.out _ hb)
    go_ret;exact⟨by rw[E.out];simp[h0],HW.out.trans (hb.mono HW.out.size)⟩
def qs{α:Type}(p:α→Bool)(l:List α)(n:Int):Bool:=decide ((l.length:Int)≤n)&& l.all p
theorem q02{α:Type}{p:α→Bool}{l:List α}{n:Int}(h:¬(l.length:Int)≤n):qs p l n=false:=by unfold qs;rw[Xg h];rfl
theorem q0a{α:Type}{p:α→Bool}{l:List α}{n:Int}(h:(l.length:Int)≤n):qs p l n=l.all p:=by unfold qs;rw[Xm h];rfl
theorem q31(l:List (Int×Int))(n:Int):qs qd l n=kC l n:=by
 unfold qs kC;rw[XV];simp
theorem q6g(l:List Int)(n most:Int):qs (fun x=>zP x 0 most) l n=kh l n most:=by
 unfold qs kh zP;rw[XV];simp
theorem VC{P:Prop}(h:P:=by
 go_roundw;case rel=>exact⟨k+1,by omega,by go_num,zH (HYES.out R.out),HX1⟩
 case measure=>simp[intOf];omega):P:=h
set_option maxHeartbeats 1600000 in
theorem qho(l:List (Int×Int))(n:Int)(A:Option Addr)(cap B:Nat)(w:World)(hB:B≤w.heap.size)(h:ze zc 2 w B A cap l):
  Calls Tryz.prog 76 #[.slice A l.length cap,.int .i64 n,.func (.func 77) #[] #[]] w fun e w'=>e= .returned (.bool (qs qd l n))∧Below w.heap.size w w':=by
 have hlc:=h.le;have hcm:=h.cap;have HL:=zH h;have HB:=zH hB;clear h hB;by_cases hn:n<l.length
 ·have E:=zH (q02 (p:=qd) (show ¬(l.length:Int)≤n by omega));go_enter Tryz.func76,Tryz.ntmps76;go_wp2
  go_ret;exact⟨by rw[E.out];rfl,zb _ _⟩
 ·have E:=zH (q0a (p:=qd) (show(l.length:Int)≤n by omega));rw[E.out];clear E;go_enter Tryz.func76,Tryz.ntmps76;go_wp2
  go_loopw [15] (fun i wr=>∃k:Nat,k≤l.length∧i= .int .i64 k∧Hid (∀t ∈l.take k,qd t=true)∧Hid (Below w.heap.size w wr)) (fun i _=>l.length - (intOf i).toNat)
  case atStart=>exact⟨0,by omega,rfl,zH (by simp),zH (zb _ _)⟩
  case round=>
   obtain⟨k,hk,rfl,HN,HX⟩:=hrel;by_cases hlt:k<l.length
   ·obtain⟨ad,rfl,hab,q0,q1⟩:=(HL.out.below_to zc.keeps HX.out HB.out).row.at_ hlt;have HNOT:=zH (fun g:qd l[k]=false=>vK hlt g);have HYES:=zH (fun g:qd l[k]=true=>vH hlt HN.out g);generalize l[k]=t at*
    obtain⟨r,hr⟩:∃r,qd t=r:=⟨_,rfl⟩
    have R:=zH hr;clear hr;have HA:=zH (HX.out.alloc HX.out.size (.cells #[.int .i64 t.1,.int .i64 t.2] 50));cases r
    ·go_wp2_with(go_at_call 77;(with_reducible refine(q6d t _).mono ?_);rintro e w1 ⟨he,hb⟩;rw[R.out]at he;subst he;have HX1:=zj HA hb;clear hb)
     go_ret;exact⟨by rw[HNOT.out R.out];rfl,HX1.out⟩
    ·go_wp2_with(go_at_call 77;(with_reducible refine(q6d t _).mono ?_);rintro e w1 ⟨he,hb⟩;rw[R.out]at he;subst he;have HX1:=zj HA hb;clear hb)
     exact VC
   ·go_wp2_with fail
    go_ret;exact⟨by rw[vL HN.out (by omega)];rfl,HX.out⟩
def ZE(x:Int):Bool:=zP x 0 11
def Zg(x:Int):Bool:=zP x 0 4096
set_option maxHeartbeats 1600000 in
theorem qke(l:List (Int))(n:Int)(A:Option Addr)(cap B:Nat)(w:World)(hB:B≤w.heap.size)(h:ze zl 1 w B A cap l):
  Calls Tryz.prog 80 #[.slice A l.length cap,.int .i64 n,.func (.func 81) #[] #[]] w fun e w'=>e= .returned (.bool (qs ZE l n))∧Below w.heap.size w w':=by
 have hlc:=h.le;have hcm:=h.cap;have HL:=zH h;have HB:=zH hB;clear h hB;by_cases hn:n<l.length
 ·have E:=zH (q02 (p:=ZE) (show ¬(l.length:Int)≤n by omega));go_enter Tryz.func80,Tryz.ntmps80;go_wp2
  go_ret;exact⟨by rw[E.out];rfl,zb _ _⟩
 ·have E:=zH (q0a (p:=ZE) (show(l.length:Int)≤n by omega));rw[E.out];clear E;go_enter Tryz.func80,Tryz.ntmps80;go_wp2
  go_loopw [15] (fun i wr=>∃k:Nat,k≤l.length∧i= .int .i64 k∧Hid (∀t ∈l.take k,ZE t=true)∧Hid (Below w.heap.size w wr)) (fun i _=>l.length - (intOf i).toNat)
  case atStart=>exact⟨0,by omega,rfl,zH (by simp),zH (zb _ _)⟩
  case round=>
   obtain⟨k,hk,rfl,HN,HX⟩:=hrel;by_cases hlt:k<l.length
   ·obtain⟨ad,rfl,hab,q0⟩:=(HL.out.below_to zl.keeps HX.out HB.out).row.at_ hlt;have HNOT:=zH (fun g:ZE l[k]=false=>vK hlt g);have HYES:=zH (fun g:ZE l[k]=true=>vH hlt HN.out g);rw[Xz]at q0;have q0':wr.cell? (ad.add k)=some (.int .i64 l[k]):=q0;clear q0;generalize l[k]=t at*
    obtain⟨r,hr⟩:∃r,ZE t=r:=⟨_,rfl⟩
    have R:=zH hr;clear hr;have HA:=HX;cases r
    ·go_wp2_with(go_at_call 81;(with_reducible refine(qbs t _).mono ?_);rintro e w1 ⟨he,hb⟩;rw[show zP t 0 11=_ from R.out]at he;subst he;have HX1:=zj HA hb;clear hb)
     go_ret;exact⟨by rw[HNOT.out R.out];rfl,HX1.out⟩
    ·go_wp2_with(go_at_call 81;(with_reducible refine(qbs t _).mono ?_);rintro e w1 ⟨he,hb⟩;rw[show zP t 0 11=_ from R.out]at he;subst he;have HX1:=zj HA hb;clear hb)
     exact VC
   ·go_wp2_with fail
    go_ret;exact⟨by rw[vL HN.out (by omega)];rfl,HX.out⟩
set_option maxHeartbeats 1600000 in
theorem qkd(l:List (Int))(n:Int)(A:Option Addr)(cap B:Nat)(w:World)(hB:B≤w.heap.size)(h:ze zl 1 w B A cap l):
  Calls Tryz.prog 80 #[.slice A l.length cap,.int .i64 n,.func (.func 125) #[] #[]] w fun e w'=>e= .returned (.bool (qs Zg l n))∧Below w.heap.size w w':=by
 have hlc:=h.le;have hcm:=h.cap;have HL:=zH h;have HB:=zH hB;clear h hB;by_cases hn:n<l.length
 ·have E:=zH (q02 (p:=Zg) (show ¬(l.length:Int)≤n by omega));go_enter Tryz.func80,Tryz.ntmps80;go_wp2
  go_ret;exact⟨by rw[E.out];rfl,zb _ _⟩
 ·have E:=zH (q0a (p:=Zg) (show(l.length:Int)≤n by omega));rw[E.out];clear E;go_enter Tryz.func80,Tryz.ntmps80;go_wp2
  go_loopw [15] (fun i wr=>∃k:Nat,k≤l.length∧i= .int .i64 k∧Hid (∀t ∈l.take k,Zg t=true)∧Hid (Below w.heap.size w wr)) (fun i _=>l.length - (intOf i).toNat)
  case atStart=>exact⟨0,by omega,rfl,zH (by simp),zH (zb _ _)⟩
  case round=>
   obtain⟨k,hk,rfl,HN,HX⟩:=hrel;by_cases hlt:k<l.length
   ·obtain⟨ad,rfl,hab,q0⟩:=(HL.out.below_to zl.keeps HX.out HB.out).row.at_ hlt;have HNOT:=zH (fun g:Zg l[k]=false=>vK hlt g);have HYES:=zH (fun g:Zg l[k]=true=>vH hlt HN.out g);rw[Xz]at q0;have q0':wr.cell? (ad.add k)=some (.int .i64 l[k]):=q0;clear q0;generalize l[k]=t at*
    obtain⟨r,hr⟩:∃r,Zg t=r:=⟨_,rfl⟩
    have R:=zH hr;clear hr;have HA:=HX;cases r
    ·go_wp2_with(go_at_call 125;(with_reducible refine(q6e t _).mono ?_);rintro e w1 ⟨he,hb⟩;rw[show zP t 0 4096=_ from R.out]at he;subst he;have HX1:=zj HA hb;clear hb)
     go_ret;exact⟨by rw[HNOT.out R.out];rfl,HX1.out⟩
    ·go_wp2_with(go_at_call 125;(with_reducible refine(q6e t _).mono ?_);rintro e w1 ⟨he,hb⟩;rw[show zP t 0 4096=_ from R.out]at he;subst he;have HX1:=zj HA hb;clear hb)
     exact VC
   ·go_wp2_with fail
    go_ret;exact⟨by rw[vL HN.out (by omega)];rfl,HX.out⟩
def QM(i:Int×Int×Int):Bool:=qf i.1 i.2.1 i.2.2
set_option maxHeartbeats 1600000 in
theorem qkf(l:List (Int×Int×Int))(n:Int)(A:Option Addr)(cap B:Nat)(w:World)(hB:B≤w.heap.size)(h:ze qi 3 w B A cap l):
  Calls Tryz.prog 123 #[.slice A l.length cap,.int .i64 n,.func (.func 124) #[] #[]] w fun e w'=>e= .returned (.bool (qs QM l n))∧Below w.heap.size w w':=by
 have hlc:=h.le;have hcm:=h.cap;have HL:=zH h;have HB:=zH hB;clear h hB;by_cases hn:n<l.length
 ·have E:=zH (q02 (p:=QM) (show ¬(l.length:Int)≤n by omega));go_enter Tryz.func123,Tryz.ntmps123;go_wp2
  go_ret;exact⟨by rw[E.out];rfl,zb _ _⟩
 ·have E:=zH (q0a (p:=QM) (show(l.length:Int)≤n by omega));rw[E.out];clear E;go_enter Tryz.func123,Tryz.ntmps123;go_wp2
  go_loopw [15] (fun i wr=>∃k:Nat,k≤l.length∧i= .int .i64 k∧Hid (∀t ∈l.take k,QM t=true)∧Hid (Below w.heap.size w wr)) (fun i _=>l.length - (intOf i).toNat)
  case atStart=>exact⟨0,by omega,rfl,zH (by simp),zH (zb _ _)⟩
  case round=>
   obtain⟨k,hk,rfl,HN,HX⟩:=hrel;by_cases hlt:k<l.length
   ·obtain⟨ad,rfl,hab,q0,q1,q2⟩:=(HL.out.below_to qi.keeps HX.out HB.out).row.at_ hlt;have HNOT:=zH (fun g:QM l[k]=false=>vK hlt g);have HYES:=zH (fun g:QM l[k]=true=>vH hlt HN.out g);generalize l[k]=t at*
    obtain⟨r,hr⟩:∃r,QM t=r:=⟨_,rfl⟩
    have R:=zH hr;clear hr;have HA:=zH (HX.out.alloc HX.out.size (.cells #[.int .i64 t.1,.int .i64 t.2.1,.int .i64 t.2.2] 55));cases r
    ·go_wp2_with(go_at_call 124;(with_reducible refine(qbt t.1 t.2.1 t.2.2 _).mono ?_);rintro e w1 ⟨he,hb⟩;rw[show qf t.1 t.2.1 t.2.2=_ from R.out]at he;subst he;have HX1:=zj HA hb;clear hb)
     go_ret;exact⟨by rw[HNOT.out R.out];rfl,HX1.out⟩
    ·go_wp2_with(go_at_call 124;(with_reducible refine(qbt t.1 t.2.1 t.2.2 _).mono ?_);rintro e w1 ⟨he,hb⟩;rw[show qf t.1 t.2.1 t.2.2=_ from R.out]at he;subst he;have HX1:=zj HA hb;clear hb)
     exact VC
   ·go_wp2_with fail
    go_ret;exact⟨by rw[vL HN.out (by omega)];rfl,HX.out⟩
theorem q0y{l:List (Int×Int)}{n:Int}{A:Option Addr}{cap B:Nat}{w0 w:World}{r:Bool}(HL:Hid (ze zc 2 w0 B A cap l))(HB:Hid (B≤w0.heap.size))(HX:Hid (Below w0.heap.size w0 w))(HR:Hid (qs qd l n=r)):
  Calls Tryz.prog 76 #[.slice A l.length cap,.int .i64 n,.func (.func 77) #[] #[]] w fun e w'=>e= .returned (.bool r)∧Below w.heap.size w w':=by
 have h:=qho l n A cap B w (Xd HB.out HX.out.size) (HL.out.below_to zc.keeps HX.out HB.out);rw[HR.out]at h;exact h
theorem q5n{l:List (Int)}{n:Int}{A:Option Addr}{cap B:Nat}{w0 w:World}{r:Bool}(HL:Hid (ze zl 1 w0 B A cap l))(HB:Hid (B≤w0.heap.size))(HX:Hid (Below w0.heap.size w0 w))(HR:Hid (qs ZE l n=r)):
  Calls Tryz.prog 80 #[.slice A l.length cap,.int .i64 n,.func (.func 81) #[] #[]] w fun e w'=>e= .returned (.bool r)∧Below w.heap.size w w':=by
 have h:=qke l n A cap B w (Xd HB.out HX.out.size) (HL.out.below_to zl.keeps HX.out HB.out);rw[HR.out]at h;exact h
theorem qp0{l:List (Int)}{n:Int}{A:Option Addr}{cap B:Nat}{w0 w:World}{r:Bool}(HL:Hid (ze zl 1 w0 B A cap l))(HB:Hid (B≤w0.heap.size))(HX:Hid (Below w0.heap.size w0 w))(HR:Hid (qs Zg l n=r)):
  Calls Tryz.prog 80 #[.slice A l.length cap,.int .i64 n,.func (.func 125) #[] #[]] w fun e w'=>e= .returned (.bool r)∧Below w.heap.size w w':=by
 have h:=qkd l n A cap B w (Xd HB.out HX.out.size) (HL.out.below_to zl.keeps HX.out HB.out);rw[HR.out]at h;exact h
theorem qp1{l:List (Int×Int×Int)}{n:Int}{A:Option Addr}{cap B:Nat}{w0 w:World}{r:Bool}(HL:Hid (ze qi 3 w0 B A cap l))(HB:Hid (B≤w0.heap.size))(HX:Hid (Below w0.heap.size w0 w))(HR:Hid (qs QM l n=r)):
  Calls Tryz.prog 123 #[.slice A l.length cap,.int .i64 n,.func (.func 124) #[] #[]] w fun e w'=>e= .returned (.bool r)∧Below w.heap.size w w':=by
 have h:=qkf l n A cap B w (Xd HB.out HX.out.size) (HL.out.below_to qi.keeps HX.out HB.out);rw[HR.out]at h;exact h
theorem qv0{t:Int×Int}{w:World}{r:Bool}(HR:Hid (qd t=r)):Calls Tryz.prog 77 #[zU t.1 t.2] w fun e w'=>e= .returned (.bool r)∧Below w.heap.size w w':=by
 have h:=q6d t w;rw[HR.out]at h;exact h
theorem qv1{n:Int}{w:World}{r:Bool}(HR:Hid (Zg n=r)):Calls Tryz.prog 125 #[.int .i64 n] w fun e w'=>e= .returned (.bool r)∧Below w.heap.size w w':=by
 have h:=q6e n w;rw[show zP n 0 4096=r from HR.out]at h;exact h
theorem qrd{n:Int}(h: -9223372036854775808≤n∧n≤9223372036854775807):zP (wrap64 (n+1)) 0 8=zP n (-1) 7:=by
 unfold zP wrap64;rw[X8];omega
theorem qtr(c:zJ)(h: -9223372036854775808≤c.sup∧c.sup≤9223372036854775807):jk c=(zP (wrap64 (c.sup+1)) 0 8&& (qs qd c.fields 8&& qs ZE c.slots 4)):=by
 rw[qrd h,q31,show qs ZE c.slots 4=kh c.slots 4 11 from q6g ..];rfl
theorem qso(x:zh):qD x=(qs qd x.args 4&& (qs qd x.locals 8&& (qd x.ret&& (qs QM x.code 64&& (zP x.depth 0 8&& (Zg x.pot&& qs Zg x.phi 64)))))):=by
 rw[q31,q31,show qs Zg x.phi 64=kh x.phi 64 4096 from q6g ..];unfold qD q0l qs QM Zg
 ac_rfl
theorem qpm(m:za):zK m=(qs jk m.classes 8&& (qs qd m.statics 8&& (decide ((m.ints.length:Int)≤16)&& (qs qD m.methods 12&& (qs ZE m.entries 12&& (zP m.stack 0 4096&& zP m.heap 0 4096)))))):=by
 rw[q31,show qs ZE m.entries 12=kh m.entries 12 11 from q6g ..];unfold zK Ze qs
 ac_rfl
set_option maxHeartbeats 1600000 in
theorem qdg(c:zJ)(A1 A2:Option Addr)(k1 k2 B:Nat)(w:World)(hB:B≤w.heap.size)(h1:ze zc 2 w B A1 k1 c.fields)(h2:ze zl 1 w B A2 k2 c.slots)(hr: -9223372036854775808≤c.sup∧c.sup≤9223372036854775807):
  Calls Tryz.prog 75 #[.agg #[.int .i64 c.sup,.slice A1 c.fields.length k1,.slice A2 c.slots.length k2]] w fun e w'=>e= .returned (.bool (jk c))∧Below w.heap.size w w':=by
 have HW:=zH ((zb w.heap.size w).alloc (zn _) (.cells #[.int .i64 c.sup,.slice A1 c.fields.length k1,.slice A2 c.slots.length k2] 81));have HZ2:Hid (w.heap.size<(w.alloc (.cells #[.int .i64 c.sup,.slice A1 c.fields.length k1,.slice A2 c.slots.length k2] 81)).heap.size):=zH (by simp);have HBC:=zH (qr w [.int .i64 c.sup,.slice A1 c.fields.length k1,.slice A2 c.slots.length k2] 81);have HB2:=zH (Xd hB HW.out.size);have HSf:=zH (h1.below_to zc.keeps HW.out hB);have HSs:=zH (h2.below_to zl.keeps HW.out hB);clear h1 h2;obtain⟨d0,hd0⟩:∃b,zP (wrap64 (c.sup+1)) 0 8=b:=⟨_,rfl⟩
 have D0:=zH hd0;obtain⟨d1,hd1⟩:∃b,qs qd c.fields 8=b:=⟨_,rfl⟩
 have D1:=zH hd1;obtain⟨d2,hd2⟩:∃b,qs ZE c.slots 4=b:=⟨_,rfl⟩
 have D2:=zH hd2;have E0:=qtr c hr;rw[hd0,hd1,hd2]at E0;have E:=zH E0;clear E0 hB hr hd0 hd1 hd2;go_enter Tryz.func75,Tryz.ntmps75;go_upto_region 1 with fail
 generalize w.alloc (.cells #[.int .i64 c.sup,.slice A1 c.fields.length k1,.slice A2 c.slots.length k2] 81)=w2 at*
 have HX2:Hid (Below w2.heap.size w2 w2):=zH (zb _ _);obtain⟨r0,r1,r2⟩:=qw HBC.out;cases d0;rotate_left;cases d1;rotate_left;cases d2;iterate 4
  ·go_wp2_with((first|(go_at_call 82;(with_reducible refine(Jo D0).mono ?_))|(go_at_call 76;(with_reducible refine(q0y HSf HB2 HX2 D1).mono ?_))|(go_at_call 80;(with_reducible refine(q5n HSs HB2 HX2 D2).mono ?_)));rintro e w' ⟨rfl,hb⟩;have HX2:=zj HX2 hb;obtain⟨r0,r1,r2⟩:=qw (HBC.out.keep HX2.out HZ2.out);clear hb)
   go_ret;exact⟨by rw[E.out];first|rfl|simp[*],HW.out.trans (HX2.out.mono HW.out.size)⟩
set_option maxHeartbeats 3200000 in
theorem qdf(x:zh)(A0 A1 A4 A7:Option Addr)(k0 k1 k4 k7 B:Nat)(w:World)(hB:B≤w.heap.size)(h0:ze zc 2 w B A0 k0 x.args)(h1:ze zc 2 w B A1 k1 x.locals)(h4:ze qi 3 w B A4 k4 x.code)(h7:ze zl 1 w B A7 k7 x.phi):
  Calls Tryz.prog 79 #[.agg #[.slice A0 x.args.length k0,.slice A1 x.locals.length k1,.int .i64 x.ret.1,.int .i64 x.ret.2,.slice A4 x.code.length k4,.int .i64 x.depth,.int .i64 x.pot,.slice A7 x.phi.length k7]] w fun e w'=>e= .returned (.bool (qD x))∧Below w.heap.size w w':=by
 have HW:=zH ((zb w.heap.size w).alloc (zn _) (.cells #[.slice A0 x.args.length k0,.slice A1 x.locals.length k1,.int .i64 x.ret.1,.int .i64 x.ret.2,.slice A4 x.code.length k4,.int .i64 x.depth,.int .i64 x.pot,.slice A7 x.phi.length k7] 53));have HZ2:Hid (w.heap.size<(w.alloc (.cells #[.slice A0 x.args.length k0,.slice A1 x.locals.length k1,.int .i64 x.ret.1,.int .i64 x.ret.2,.slice A4 x.code.length k4,.int .i64 x.depth,.int .i64 x.pot,.slice A7 x.phi.length k7] 53)).heap.size):=zH (by simp);have HBC:=zH (qr w [.slice A0 x.args.length k0,.slice A1 x.locals.length k1,.int .i64 x.ret.1,.int .i64 x.ret.2,.slice A4 x.code.length k4,.int .i64 x.depth,.int .i64 x.pot,.slice A7 x.phi.length k7] 53);have HB2:=zH (Xd hB HW.out.size);have HSa:=zH (h0.below_to zc.keeps HW.out hB);have HSl:=zH (h1.below_to zc.keeps HW.out hB);have HSc:=zH (h4.below_to qi.keeps HW.out hB);have HSp:=zH (h7.below_to zl.keeps HW.out hB);clear h0 h1 h4 h7;obtain⟨d0,hd0⟩:∃b,qs qd x.args 4=b:=⟨_,rfl⟩
 have D0:=zH hd0;obtain⟨d1,hd1⟩:∃b,qs qd x.locals 8=b:=⟨_,rfl⟩
 have D1:=zH hd1;obtain⟨d2,hd2⟩:∃b,qd x.ret=b:=⟨_,rfl⟩
 have D2:=zH hd2;obtain⟨d3,hd3⟩:∃b,qs QM x.code 64=b:=⟨_,rfl⟩
 have D3:=zH hd3;obtain⟨d4,hd4⟩:∃b,zP x.depth 0 8=b:=⟨_,rfl⟩
 have D4:=zH hd4;obtain⟨d5,hd5⟩:∃b,Zg x.pot=b:=⟨_,rfl⟩
 have D5:=zH hd5;obtain⟨d6,hd6⟩:∃b,qs Zg x.phi 64=b:=⟨_,rfl⟩
 have D6:=zH hd6;have E0:=qso x;rw[hd0,hd1,hd2,hd3,hd4,hd5,hd6]at E0;have E:=zH E0;clear E0 hB hd0 hd1 hd2 hd3 hd4 hd5 hd6;go_enter Tryz.func79,Tryz.ntmps79;go_upto_region 1 with fail
 generalize w.alloc (.cells #[.slice A0 x.args.length k0,.slice A1 x.locals.length k1,.int .i64 x.ret.1,.int .i64 x.ret.2,.slice A4 x.code.length k4,.int .i64 x.depth,.int .i64 x.pot,.slice A7 x.phi.length k7] 53)=w2 at*
 have HX2:Hid (Below w2.heap.size w2 w2):=zH (zb _ _);obtain⟨r0,r1,r2,r3,r4,r5,r6,r7⟩:=zY HBC.out;cases d0;rotate_left;cases d1;rotate_left;cases d2;rotate_left;cases d3;rotate_left;cases d4;rotate_left;cases d5;rotate_left;cases d6;iterate 8
  ·go_wp2_with((first|(go_at_call 76;(with_reducible refine(q0y HSa HB2 HX2 D0).mono ?_))|(go_at_call 76;(with_reducible refine(q0y HSl HB2 HX2 D1).mono ?_))|(go_at_call 77;(with_reducible refine(qv0 D2).mono ?_))|(go_at_call 123;(with_reducible refine(qp1 HSc HB2 HX2 D3).mono ?_))|(go_at_call 82;(with_reducible refine(Jo D4).mono ?_))|(go_at_call 125;(with_reducible refine(qv1 D5).mono ?_))|(go_at_call 80;(with_reducible refine(qp0 HSp HB2 HX2 D6).mono ?_)));rintro e w' ⟨rfl,hb⟩;have HX2:=zj HX2 hb;obtain⟨r0,r1,r2,r3,r4,r5,r6,r7⟩:=zY (HBC.out.keep HX2.out HZ2.out);clear hb)
   go_ret;exact⟨by rw[E.out];first|rfl|simp[*],HW.out.trans (HX2.out.mono HW.out.size)⟩
set_option maxHeartbeats 1600000 in
theorem qg1(l:List (zJ))(n:Int)(A:Option Addr)(cap B:Nat)(w:World)(hB:B≤w.heap.size)(h:ze qj 3 w B A cap l):
  Calls Tryz.prog 74 #[.slice A l.length cap,.int .i64 n,.func (.func 75) #[] #[]] w fun e w'=>e= .returned (.bool (qs jk l n))∧Below w.heap.size w w':=by
 have hlc:=h.le;have hcm:=h.cap;have HL:=zH h;have HB:=zH hB;clear h hB;by_cases hn:n<l.length
 ·have E:=zH (q02 (p:=jk) (show ¬(l.length:Int)≤n by omega));go_enter Tryz.func74,Tryz.ntmps74;go_wp2
  go_ret;exact⟨by rw[E.out];rfl,zb _ _⟩
 ·have E:=zH (q0a (p:=jk) (show(l.length:Int)≤n by omega));rw[E.out];clear E;go_enter Tryz.func74,Tryz.ntmps74;go_wp2
  go_loopw [15] (fun i wr=>∃k:Nat,k≤l.length∧i= .int .i64 k∧Hid (∀t ∈l.take k,jk t=true)∧Hid (Below w.heap.size w wr)) (fun i _=>l.length - (intOf i).toNat)
  case atStart=>exact⟨0,by omega,rfl,zH (by simp),zH (zb _ _)⟩
  case round=>
   obtain⟨k,hk,rfl,HN,HX⟩:=hrel;by_cases hlt:k<l.length
   ·obtain⟨ad,rfl,hab,s0,⟨A1,k1,s1,hs1⟩,⟨A2,k2,s2,hs2⟩,hrg⟩:=(HL.out.below_to qj.keeps HX.out HB.out).row.at_ hlt;have HNOT:=zH (fun g:jk l[k]=false=>vK hlt g);have HYES:=zH (fun g:jk l[k]=true=>vH hlt HN.out g);generalize l[k]=t at*
    obtain⟨r,hr⟩:∃r,jk t=r:=⟨_,rfl⟩
    have R:=zH hr;clear hr;have HA:=zH (HX.out.alloc HX.out.size (.cells #[.int .i64 t.sup,.slice A1 t.fields.length k1,.slice A2 t.slots.length k2] 81));have hBr:B≤wr.heap.size:=Xd HB.out HX.out.size;have HBr2:Hid (B≤(wr.alloc (.cells #[.int .i64 t.sup,.slice A1 t.fields.length k1,.slice A2 t.slots.length k2] 81)).heap.size):=zH (Xd hBr (by simp));have HSf:=zH (hs1.below_to zc.keeps ((zb wr.heap.size wr).alloc (zn _) (.cells #[.int .i64 t.sup,.slice A1 t.fields.length k1,.slice A2 t.slots.length k2] 81)) hBr);have HSs:=zH (hs2.below_to zl.keeps ((zb wr.heap.size wr).alloc (zn _) (.cells #[.int .i64 t.sup,.slice A1 t.fields.length k1,.slice A2 t.slots.length k2] 81)) hBr);clear hBr hs1 hs2;have HRG:=zH hrg;clear hrg;cases r
    ·go_wp2_with(go_at_call 75;(with_reducible refine(qdg t A1 A2 k1 k2 B _ HBr2.out HSf.out HSs.out HRG.out).mono ?_);rintro e w1 ⟨he,hb⟩;rw[R.out]at he;subst he;have HX1:=zj HA hb;clear hb)
     go_ret;exact⟨by rw[HNOT.out R.out];rfl,HX1.out⟩
    ·go_wp2_with(go_at_call 75;(with_reducible refine(qdg t A1 A2 k1 k2 B _ HBr2.out HSf.out HSs.out HRG.out).mono ?_);rintro e w1 ⟨he,hb⟩;rw[R.out]at he;subst he;have HX1:=zj HA hb;clear hb)
     exact VC
   ·go_wp2_with fail
    go_ret;exact⟨by rw[vL HN.out (by omega)];rfl,HX.out⟩
set_option maxHeartbeats 1600000 in
theorem qg0(l:List (zh))(n:Int)(A:Option Addr)(cap B:Nat)(w:World)(hB:B≤w.heap.size)(h:ze qC 8 w B A cap l):
  Calls Tryz.prog 78 #[.slice A l.length cap,.int .i64 n,.func (.func 79) #[] #[]] w fun e w'=>e= .returned (.bool (qs qD l n))∧Below w.heap.size w w':=by
 have hlc:=h.le;have hcm:=h.cap;have HL:=zH h;have HB:=zH hB;clear h hB;by_cases hn:n<l.length
 ·have E:=zH (q02 (p:=qD) (show ¬(l.length:Int)≤n by omega));go_enter Tryz.func78,Tryz.ntmps78;go_wp2
  go_ret;exact⟨by rw[E.out];rfl,zb _ _⟩
 ·have E:=zH (q0a (p:=qD) (show(l.length:Int)≤n by omega));rw[E.out];clear E;go_enter Tryz.func78,Tryz.ntmps78;go_wp2
  go_loopw [15] (fun i wr=>∃k:Nat,k≤l.length∧i= .int .i64 k∧Hid (∀t ∈l.take k,qD t=true)∧Hid (Below w.heap.size w wr)) (fun i _=>l.length - (intOf i).toNat)
  case atStart=>exact⟨0,by omega,rfl,zH (by simp),zH (zb _ _)⟩
  case round=>
   obtain⟨k,hk,rfl,HN,HX⟩:=hrel;by_cases hlt:k<l.length
   ·obtain⟨ad,rfl,hab,⟨A0,k0,s0,hs0⟩,⟨A1,k1,s1,hs1⟩,s2,s3,⟨A4,k4,s4,hs4⟩,s5,s6,⟨A7,k7,s7,hs7⟩⟩:=(HL.out.below_to qC.keeps HX.out HB.out).row.at_ hlt;have HNOT:=zH (fun g:qD l[k]=false=>vK hlt g);have HYES:=zH (fun g:qD l[k]=true=>vH hlt HN.out g);generalize l[k]=t at*
    obtain⟨r,hr⟩:∃r,qD t=r:=⟨_,rfl⟩
    have R:=zH hr;clear hr;have HA:=zH (HX.out.alloc HX.out.size (.cells #[.slice A0 t.args.length k0,.slice A1 t.locals.length k1,.int .i64 t.ret.1,.int .i64 t.ret.2,.slice A4 t.code.length k4,.int .i64 t.depth,.int .i64 t.pot,.slice A7 t.phi.length k7] 53));have hBr:B≤wr.heap.size:=Xd HB.out HX.out.size;have HBr2:Hid (B≤(wr.alloc (.cells #[.slice A0 t.args.length k0,.slice A1 t.locals.length k1,.int .i64 t.ret.1,.int .i64 t.ret.2,.slice A4 t.code.length k4,.int .i64 t.depth,.int .i64 t.pot,.slice A7 t.phi.length k7] 53)).heap.size):=zH (Xd hBr (by simp));have HSa:=zH (hs0.below_to zc.keeps ((zb wr.heap.size wr).alloc (zn _) (.cells #[.slice A0 t.args.length k0,.slice A1 t.locals.length k1,.int .i64 t.ret.1,.int .i64 t.ret.2,.slice A4 t.code.length k4,.int .i64 t.depth,.int .i64 t.pot,.slice A7 t.phi.length k7] 53)) hBr);have HSl:=zH (hs1.below_to zc.keeps ((zb wr.heap.size wr).alloc (zn _) (.cells #[.slice A0 t.args.length k0,.slice A1 t.locals.length k1,.int .i64 t.ret.1,.int .i64 t.ret.2,.slice A4 t.code.length k4,.int .i64 t.depth,.int .i64 t.pot,.slice A7 t.phi.length k7] 53)) hBr);have HSc:=zH (hs4.below_to qi.keeps ((zb wr.heap.size wr).alloc (zn _) (.cells #[.slice A0 t.args.length k0,.slice A1 t.locals.length k1,.int .i64 t.ret.1,.int .i64 t.ret.2,.slice A4 t.code.length k4,.int .i64 t.depth,.int .i64 t.pot,.slice A7 t.phi.length k7] 53)) hBr);have HSp:=zH (hs7.below_to zl.keeps ((zb wr.heap.size wr).alloc (zn _) (.cells #[.slice A0 t.args.length k0,.slice A1 t.locals.length k1,.int .i64 t.ret.1,.int .i64 t.ret.2,.slice A4 t.code.length k4,.int .i64 t.depth,.int .i64 t.pot,.slice A7 t.phi.length k7] 53)) hBr);clear hBr hs0 hs1 hs4 hs7;cases r
    ·go_wp2_with(go_at_call 79;(with_reducible refine(qdf t A0 A1 A4 A7 k0 k1 k4 k7 B _ HBr2.out HSa.out HSl.out HSc.out HSp.out).mono ?_);rintro e w1 ⟨he,hb⟩;rw[R.out]at he;subst he;have HX1:=zj HA hb;clear hb)
     go_ret;exact⟨by rw[HNOT.out R.out];rfl,HX1.out⟩
    ·go_wp2_with(go_at_call 79;(with_reducible refine(qdf t A0 A1 A4 A7 k0 k1 k4 k7 B _ HBr2.out HSa.out HSl.out HSc.out HSp.out).mono ?_);rintro e w1 ⟨he,hb⟩;rw[R.out]at he;subst he;have HX1:=zj HA hb;clear hb)
     exact VC
   ·go_wp2_with fail
    go_ret;exact⟨by rw[vL HN.out (by omega)];rfl,HX.out⟩
theorem q8e{l:List (zJ)}{n:Int}{A:Option Addr}{cap B:Nat}{w0 w:World}{r:Bool}(HL:Hid (ze qj 3 w0 B A cap l))(HB:Hid (B≤w0.heap.size))(HX:Hid (Below w0.heap.size w0 w))(HR:Hid (qs jk l n=r)):
  Calls Tryz.prog 74 #[.slice A l.length cap,.int .i64 n,.func (.func 75) #[] #[]] w fun e w'=>e= .returned (.bool r)∧Below w.heap.size w w':=by
 have h:=qg1 l n A cap B w (Xd HB.out HX.out.size) (HL.out.below_to qj.keeps HX.out HB.out);rw[HR.out]at h;exact h
theorem q8d{l:List (zh)}{n:Int}{A:Option Addr}{cap B:Nat}{w0 w:World}{r:Bool}(HL:Hid (ze qC 8 w0 B A cap l))(HB:Hid (B≤w0.heap.size))(HX:Hid (Below w0.heap.size w0 w))(HR:Hid (qs qD l n=r)):
  Calls Tryz.prog 78 #[.slice A l.length cap,.int .i64 n,.func (.func 79) #[] #[]] w fun e w'=>e= .returned (.bool r)∧Below w.heap.size w w':=by
 have h:=qg0 l n A cap B w (Xd HB.out HX.out.size) (HL.out.below_to qC.keeps HX.out HB.out);rw[HR.out]at h;exact h
theorem VD{P:Prop}(h:P:=by
 go_wp2_with((first|(go_at_call 74;(with_reducible refine(q8e HS0 HB2 HX2 D0).mono ?_))|(go_at_call 76;(with_reducible refine(q0y HS1 HB2 HX2 D1).mono ?_))|(go_at_call 78;(with_reducible refine(q8d HS3 HB2 HX2 D3).mono ?_))|(go_at_call 80;(with_reducible refine(q5n HS4 HB2 HX2 D4).mono ?_))|(go_at_call 82;(with_reducible refine(Jo D5).mono ?_))|(go_at_call 82;(with_reducible refine(Jo D6).mono ?_)));rintro e w' ⟨rfl,hb⟩;have HX2:=zj HX2 hb;obtain⟨r0,r1,r2,r3,r4,r5,r6⟩:=ck7 (HBC.out.keep HX2.out HZ2.out);clear hb)
 go_ret;exact⟨by rw[E.out];first|rfl|simp[*],HW.out.trans (HX2.out.mono HW.out.size)⟩):P:=h
set_option maxHeartbeats 3200000 in
theorem q5o(m:za)(h:zi)(B:Nat)(w:World)(hB:B≤w.heap.size)(H:zm w B h m):
  Calls Tryz.prog 48 #[zp h m] w fun e w'=>e= .returned (.bool (zK m))∧Below w.heap.size w w':=by
 have HW:=zH ((zb w.heap.size w).alloc (zn _) (.cells #[.slice h.A0 m.classes.length h.c0,.slice h.A1 m.statics.length h.c1,.slice h.A2 m.ints.length h.c2,.slice h.A3 m.methods.length h.c3,.slice h.A4 m.entries.length h.c4,.int .i64 m.stack,.int .i64 m.heap] 28));have HZ2:Hid (w.heap.size<(w.alloc (.cells #[.slice h.A0 m.classes.length h.c0,.slice h.A1 m.statics.length h.c1,.slice h.A2 m.ints.length h.c2,.slice h.A3 m.methods.length h.c3,.slice h.A4 m.entries.length h.c4,.int .i64 m.stack,.int .i64 m.heap] 28)).heap.size):=zH (by simp);have HBC:=zH (qr w [.slice h.A0 m.classes.length h.c0,.slice h.A1 m.statics.length h.c1,.slice h.A2 m.ints.length h.c2,.slice h.A3 m.methods.length h.c3,.slice h.A4 m.entries.length h.c4,.int .i64 m.stack,.int .i64 m.heap] 28);have HB2:=zH (Xd hB HW.out.size);have HM:=zH (H.below_to HW.out hB);have HS0:=zH HM.out.classes;have HS1:=zH HM.out.statics;have HS3:=zH HM.out.methods;have HS4:=zH HM.out.entries;have hi1:=H.ints.le;have hi2:=H.ints.cap;clear H;obtain⟨d0,hd0⟩:∃b,qs jk m.classes 8=b:=⟨_,rfl⟩
 have D0:=zH hd0;obtain⟨d1,hd1⟩:∃b,qs qd m.statics 8=b:=⟨_,rfl⟩
 have D1:=zH hd1;obtain⟨d3,hd3⟩:∃b,qs qD m.methods 12=b:=⟨_,rfl⟩
 have D3:=zH hd3;obtain⟨d4,hd4⟩:∃b,qs ZE m.entries 12=b:=⟨_,rfl⟩
 have D4:=zH hd4;obtain⟨d5,hd5⟩:∃b,zP m.stack 0 4096=b:=⟨_,rfl⟩
 have D5:=zH hd5;obtain⟨d6,hd6⟩:∃b,zP m.heap 0 4096=b:=⟨_,rfl⟩
 have D6:=zH hd6;have E0:=qpm m;rw[hd0,hd1,hd3,hd4,hd5,hd6]at E0;have E:=zH E0;clear E0 hB hd0 hd1 hd3 hd4 hd5 hd6;go_enter Tryz.func48,Tryz.ntmps48;go_upto_region 1 with fail
 generalize w.alloc (.cells #[.slice h.A0 m.classes.length h.c0,.slice h.A1 m.statics.length h.c1,.slice h.A2 m.ints.length h.c2,.slice h.A3 m.methods.length h.c3,.slice h.A4 m.entries.length h.c4,.int .i64 m.stack,.int .i64 m.heap] 28)=w2 at*
 have HX2:Hid (Below w2.heap.size w2 w2):=zH (zb _ _);obtain⟨r0,r1,r2,r3,r4,r5,r6⟩:=ck7 HBC.out;cases d0;rotate_left;cases d1;rotate_left;rotate_left;iterate 2
  ·exact VD
 by_cases c2:(m.ints.length:Int)≤16
 ·cases d3
  ·exact VD
  ·cases d4
   ·exact VD
   ·cases d5
    ·exact VD
    ·cases d6
     ·exact VD
     ·exact VD
 ·go_wp2_with((first|(go_at_call 74;(with_reducible refine(q8e HS0 HB2 HX2 D0).mono ?_))|(go_at_call 76;(with_reducible refine(q0y HS1 HB2 HX2 D1).mono ?_))|(go_at_call 78;(with_reducible refine(q8d HS3 HB2 HX2 D3).mono ?_))|(go_at_call 80;(with_reducible refine(q5n HS4 HB2 HX2 D4).mono ?_))|(go_at_call 82;(with_reducible refine(Jo D5).mono ?_))|(go_at_call 82;(with_reducible refine(Jo D6).mono ?_)));rintro e w' ⟨rfl,hb⟩;have HX2:=zj HX2 hb;obtain⟨r0,r1,r2,r3,r4,r5,r6⟩:=ck7 (HBC.out.keep HX2.out HZ2.out);clear hb)
  go_ret;exact⟨by rw[E.out];rw[Xg (p:=(m.ints.length:Int)≤16) (by omega)];first|rfl|simp,HW.out.trans (HX2.out.mono HW.out.size)⟩
theorem qbu{m:za}{h:zi}{w:World}{r:Bool}(H:Hid (zm w w.heap.size h m))(HR:Hid (zK m=r)):
  Calls Tryz.prog 48 #[zp h m] w fun e w'=>e= .returned (.bool r)∧Below w.heap.size w w':=by
 have h:=q5o m h w.heap.size w (zn _) H.out;rw[HR.out]at h;exact h
theorem q9l{w w2:World}(hb:Below (w.alloc vY).heap.size (w.alloc vY) w2):zq w2 w2.heap.size (some ⟨w.heap.size,0,none⟩) (qG.map (Value.int .u8)):=fun j u hu=>by
 have hz:(w.alloc vY).heap.size=w.heap.size+1:=by simp
 have:=hb.size;exact⟨_,rfl,by show w.heap.size<_;omega,(hb.cell (p:=Addr.add ⟨w.heap.size,0,none⟩ j) (by rw[zu];show w.heap.size<_;omega)).trans (q9m w j u hu)⟩
theorem qtw(l m:List Int)(A A':Option Addr)(cap cap' n n' B:Nat)(w:World)(hn:l.length=n)(hn':m.length=n')(hr:∀b ∈l,0≤b∧b≤255)(hr':∀b ∈m,0≤b∧b≤255)
  (h:zq w B A (l.map (Value.int .u8))) (h':zq w B A' (m.map (Value.int .u8))):
  Calls Tryz.prog 158 #[.slice A n cap,.slice A' n' cap'] w fun e w'=>e= .returned (.bool (decide (l=m)))∧w=w':=by
 subst hn hn';have E:=zH (str_eq hr hr');have k1:=qeq (cap:=cap) h;have k2:=qeq (cap:=cap') h';clear hr hr' h h';go_enter Tryz.func158,Tryz.ntmps158;go_wp2
 go_ret;exact⟨by rw[←E.out];rfl,rfl⟩
theorem q8y(l:List Int)(A:Option Addr)(cap B g:Nat)(w:World)(hl:l.length≤cap)(hc:cap≤9223372036854775807)(hr:∀b ∈l,0≤b∧b≤255)
  (h:zq w B A (l.map (Value.int .u8))) (h':zq w B (some ⟨g,0,none⟩) (qG.map (Value.int .u8))):
  Calls Tryz.prog 110 #[.slice A l.length cap,.slice (some ⟨g,0,none⟩) 4 4] w fun e w'=>e= .returned (.bool (decide (l.take 4=qG)))∧w=w':=by
 by_cases h4:l.length<4
 ·have E:=zH (show decide (l.take 4=qG)=false from Xg (fun e=>by have:=congrArg List.length e;simp[qG]at this;omega));go_enter Tryz.func110,Tryz.ntmps110;go_wp2
  go_ret;exact⟨by rw[E.out];rfl,rfl⟩
 ·have HE:=zH (fun c1=>qtw (l.take 4) qG A (some ⟨g,0,none⟩) c1 4 4 4 B w (by rw[XO];omega) rfl (fun b hb=>hr b (List.mem_of_mem_take hb)) (by simp[qG]) (by have:=h.take_ 4;rwa [←List.map_take]at this) h');clear hr h h';go_enter Tryz.func110,Tryz.ntmps110;go_wp2_with(go_at_call 158;(with_reducible refine(HE.out _).mono ?_);rintro e w' ⟨rfl,rfl⟩)
  go_ret;exact⟨rfl,rfl⟩
def CutPre(l:List Int)(w:World)(e:Ending)(w':World):Prop:=
 ∃A' cap',e= .returned (.tuple #[.slice A' (l.drop 4).length cap',.bool true])∧zq w w.heap.size A' ((l.drop 4).map (Value.int .u8))∧(A'=none→cap'=0)∧w=w'
theorem qeu(l:List Int)(A:Option Addr)(cap B g:Nat)(w:World)(hl:l.length≤cap)(hc:cap≤9223372036854775807)(hr:∀b ∈l,0≤b∧b≤255)
  (h:zq w B A (l.map (Value.int .u8))) (h':zq w B (some ⟨g,0,none⟩) (qG.map (Value.int .u8))) (hn:¬l.take 4=qG):
  Calls Tryz.prog 67 #[.slice A l.length cap,.slice (some ⟨g,0,none⟩) 4 4] w fun e w'=>e= .returned (.tuple #[.slice A l.length cap,.bool false])∧w=w':=by
 have HE:=zH (q8y l A cap B g w hl hc hr h h');rw[Xg hn]at HE;clear hr h h' hn;go_enter Tryz.func67,Tryz.ntmps67;go_wp2_with(go_at_call 110;(with_reducible refine HE.out.mono ?_);rintro e w' ⟨rfl,rfl⟩)
 go_ret2
 exact⟨rfl,rfl⟩
theorem qdx(l:List Int)(A:Option Addr)(cap B g:Nat)(w:World)(hl:l.length≤cap)(hc:cap≤9223372036854775807)(hr:∀b ∈l,0≤b∧b≤255)(hB:B≤w.heap.size)
  (h:zq w B A (l.map (Value.int .u8))) (h':zq w B (some ⟨g,0,none⟩) (qG.map (Value.int .u8))) (hn:l.take 4=qG):
  Calls Tryz.prog 67 #[.slice A l.length cap,.slice (some ⟨g,0,none⟩) 4 4] w (CutPre l w):=by
 have HE:=zH (q8y l A cap B g w hl hc hr h h');rw[Xm hn]at HE;have h4:4≤l.length:=by have:=congrArg List.length hn;simp[qG]at this;omega
 obtain⟨ad,rfl,hab,_⟩:=h.at_ (k:=0) (by simp;omega);have HL:=zH h;have HB:=zH hB;have HD:=zH (show(l.drop 4).length=l.length - 4 by simp);clear hr h h' hn hB;by_cases hc4:cap=4
 ·subst hc4;have hl4:l.length=4:=by omega
  have HL4:=zH hl4;rw[hl4];rw[hl4]at HE;clear hl4;go_enter Tryz.func67,Tryz.ntmps67;go_wp2_with(go_at_call 110;(with_reducible refine HE.out.mono ?_);rintro e w' ⟨rfl,rfl⟩)
  go_ret2
  refine⟨_,_,by rw[HD.out,HL4.out];rfl,?_,?_,rfl⟩
  ·rw[List.drop_eq_nil_of_le (by rw[HL4.out];exact zn _)];exact zq.nil
  ·intro e;first|rfl|cases e
 ·go_enter Tryz.func67,Tryz.ntmps67;go_wp2_with(go_at_call 110;(with_reducible refine HE.out.mono ?_);rintro e w' ⟨rfl,rfl⟩)
  go_ret2
  refine⟨_,_,by rw[HD.out];rfl,?_,?_,rfl⟩
  ·have:=(HL.out.drop_ 4).more HB.out;rw[List.map_drop];exact this
  ·intro e;cases e
theorem qty{w:World}{g:Nat}(HP:Hid (zq w w.heap.size (some ⟨g,0,none⟩) (qG.map (Value.int .u8)))):
  Calls Tryz.prog 67 #[.slice none 0 0,.slice (some ⟨g,0,none⟩) 4 4] w fun e w'=>e= .returned (.tuple #[.slice none 0 0,.bool false])∧w=w':=
 qeu [] none 0 w.heap.size g w (zn _) (by decide) (fun b hb=>by cases hb) (fun i v hi=>by cases hi) HP.out (by decide)
set_option maxHeartbeats 1600000 in
theorem qhq(w:World):Calls Tryz.prog 43 #[.slice none 0 0] w fun e w'=>e= .returned (.tuple #[.agg #[.slice none 0 0,.slice none 0 0,.slice none 0 0,.slice none 0 0,.slice none 0 0,.int .i64 0,.int .i64 0],.int .i64 2])∧Below w.heap.size w w':=by
 have hs1:(w.alloc je).heap.size=w.heap.size+1:=by simp
 have kc:=q5g (w.alloc je) (w.heap.size+1) (by simp);have hW1:Below w.heap.size w (w.alloc je):=(zb _ _).alloc (zn _) _;have hW2:Below (w.alloc je).heap.size (w.alloc je) ((w.alloc je).alloc vY):=(zb _ _).alloc (zn _) _;have HW:=zH (hW1.trans (hW2.mono hW1.size));have HPL:Hid (zq ((w.alloc je).alloc vY) ((w.alloc je).alloc vY).heap.size (some ⟨w.heap.size+1,0,none⟩) (qG.map (Value.int .u8))):=zH (by rw[←hs1];exact q9l (zb _ _));have HJ0:Hid (((w.alloc je).alloc vY).heap[w.heap.size]? =some (.cells q41.toArray 28 (0,0))):=zH ((hW2.block _ (by omega)).trans (Xw _ _));clear hs1 hW1 hW2;go_enter Tryz.func43,Tryz.ntmps43;go_upto_region 1 with fail
 go_wp2_with(go_at_call 67;(with_reducible refine(qty HPL).mono ?_);rintro e w' ⟨rfl,rfl⟩;have JJ:=HJ0.out;have p0:=zk JJ 0 _ rfl;have p1:=zk JJ 1 _ rfl;have p2:=zk JJ 2 _ rfl;have p3:=zk JJ 3 _ rfl;have p4:=zk JJ 4 _ rfl;have p5:=zk JJ 5 _ rfl;have p6:=zk JJ 6 _ rfl;have g0:=zB JJ 0;have g1:=zB JJ 1;have g2:=zB JJ 2;have g3:=zB JJ 3;have g4:=zB JJ 4;have g5:=zB JJ 5;have g6:=zB JJ 6;clear JJ)
 refine Xl (v:= .tuple #[.agg #[.slice none 0 0,.slice none 0 0,.slice none 0 0,.slice none 0 0,.slice none 0 0,.int .i64 0,.int .i64 0],.int .i64 2]) (by simp[results,Tryz.results43,go_sem,p0,p1,p2,p3,p4,p5,p6]) rfl ⟨rfl,HW.out⟩
set_option maxHeartbeats 1600000 in
theorem qmj(w:World):Calls Tryz.prog 17 #[.slice none 0 0] w fun e w'=>e= .returned (.tuple #[.agg #[.slice none 0 0,.slice none 0 0,.slice none 0 0,.slice none 0 0,.slice none 0 0,.int .i64 0,.int .i64 0],.slice none 0 0,.int .i64 2])∧Below w.heap.size w w':=by
 have HW:=zH ((zb w.heap.size w).alloc (zn _) je);have HZ:Hid (w.heap.size<(w.alloc je).heap.size):=zH (by simp);have HJ0:Hid ((w.alloc je).heap[w.heap.size]? =some (.cells q41.toArray 28 (0,0))):=zH (Xw _ _);go_enter Tryz.func17,Tryz.ntmps17;go_upto_region 1 with fail
 generalize w.alloc je=w1 at*
 go_wp2_with(go_at_call 43;(with_reducible refine(qhq _).mono ?_);rintro e w2 ⟨rfl,hb⟩;have hb3:=(zb w2.heap.size w2).alloc (zn _) je;have HW2:=zH (HW.out.trans ((hb.trans (hb3.mono hb.size)).mono HW.out.size));have JJ:=((hb3.block _ (Xj HZ.out hb.size)).trans (hb.block _ HZ.out)).trans HJ0.out;clear hb hb3;have p0:=zk JJ 0 _ rfl;have p1:=zk JJ 1 _ rfl;have p2:=zk JJ 2 _ rfl;have p3:=zk JJ 3 _ rfl;have p4:=zk JJ 4 _ rfl;have p5:=zk JJ 5 _ rfl;have p6:=zk JJ 6 _ rfl;have g0:=zB JJ 0;have g1:=zB JJ 1;have g2:=zB JJ 2;have g3:=zB JJ 3;have g4:=zB JJ 4;have g5:=zB JJ 5;have g6:=zB JJ 6;clear JJ)
 refine Xl (v:= .tuple #[.agg #[.slice none 0 0,.slice none 0 0,.slice none 0 0,.slice none 0 0,.slice none 0 0,.int .i64 0,.int .i64 0],.slice none 0 0,.int .i64 2]) (by simp[results,Tryz.results17,go_sem,p0,p1,p2,p3,p4,p5,p6]) rfl ⟨rfl,YH HW2.out _ _ _ _ _ _ _⟩
end Go.Proofs.YtcmiljnbmgkdnaaGreat
