import Derived.Test.YtnfeiginmngknaaGreatFZ09
namespace Go.Proofs.YtnfeiginmngknaaGreat
set_option maxRecDepth 100000
set_option linter.unusedVariables false
set_option linter.unusedSimpArgs false
open Go.ChangeShapes Go.WideShapes Go.ChangeAt Go.RowKit
abbrev ZG(f:FuncId)(Ig:Array Value)(b:Bool)(w:World):Prop:=Calls Tryz.prog f Ig w fun e w'=>e= .returned (.bool b)/\Below w.heap.size w w'
theorem isB{f:FuncId}{Ig:Array Value}{b r:Bool}{w:World}(h:ZG f Ig b w)(HR:Hid (b=r)):ZG f Ig r w:=HR.out ▸ h
def iK(x:Int):Bool:=qF x 0 11
def iI(x:Int):Bool:=qF x 0 4096
theorem aB(en n:Int)(w:World):ZG 89 #[.int .i64 en,.int .i64 n] (qF n 0 en) w:=by
 by_cases h:0<=n
 ·by_cases g:n<=en
  ·have E:=zH (show qF n 0 en=true from Xi ⟨h,g⟩);go_enter Tryz.func89,Tryz.ntmps89;go_wp2
   go_ret;exact⟨by rw[E.out];first|rfl|simp[g],zb _ _⟩
  ·have E:=zH (show qF n 0 en=false from Xf (fun x=>g x.2));go_enter Tryz.func89,Tryz.ntmps89;go_wp2
   go_ret;exact⟨by rw[E.out];first|rfl|simp[g],zb _ _⟩
 ·have E:=zH (show qF n 0 en=false from Xf (fun x=>h x.1));go_enter Tryz.func89,Tryz.ntmps89;go_wp2
  go_ret;exact⟨by rw[E.out];first|rfl|simp[h],zb _ _⟩
theorem qd6(n:Int)(w:World):ZG 88 #[.int .i64 n] (iK n) w:=by
 go_enter Tryz.func88,Tryz.ntmps88;go_wp2_with(go_at_call 89;(with_reducible refine(aB _ _ _).mono ?_);rintro e w' ⟨rfl,hb⟩)
 go_ret;exact⟨rfl,hb⟩
theorem Wt(n:Int)(w:World):ZG 127 #[.int .i64 n] (iI n) w:=by
 go_enter Tryz.func127,Tryz.ntmps127;go_wp2_with(go_at_call 89;(with_reducible refine(aB _ _ _).mono ?_);rintro e w' ⟨rfl,hb⟩)
 go_ret;exact⟨rfl,hb⟩
theorem Ws(t:Int×Int)(w:World):ZG 84 #[zF t.1 t.2] (qG t) w:=by
 obtain⟨k,n⟩:=t;dsimp only;have HW:=zH (zk (w:=w) (o:=(.cells #[.int .i64 k,.int .i64 n] 45)));by_cases h3:k=3
 ·subst h3;have E:=zH (show qG (3,n)=qF n 0 7 by unfold qG qF;rw[Wj];dsimp only;omega);go_enter Tryz.func84,Tryz.ntmps84;go_wp2_with(go_at_call 89;(with_reducible refine(aB _ _ _).mono ?_);rintro e w' ⟨rfl,hb⟩)
  go_ret;exact⟨by rw[E.out];rfl,HW.out.trans (hb.mono HW.out.size)⟩
 ·have h3':(k==3)=false:=by simpa using h3
  obtain⟨r,hr⟩:=zj (qF k 0 5);have R:=zH hr;have E:=zH (show qG (k,n)=(r&& decide (n=0))by rw[<-hr];unfold qG qF;rw[XQ];simp;omega);clear hr;cases r
  ·go_enter Tryz.func84,Tryz.ntmps84;go_wp2_with(go_at_call 89;(with_reducible refine(isB (aB _ _ _) R).mono ?_);rintro e w' ⟨rfl,hb⟩)
   go_ret;exact⟨by rw[E.out];rfl,HW.out.trans (hb.mono HW.out.size)⟩
  ·have c1:∀w',Below (w.alloc (.cells #[.int .i64 k,.int .i64 n] 45)).heap.size (w.alloc (.cells #[.int .i64 k,.int .i64 n] 45)) w'->w'.cell? ⟨w.heap.size,1,none⟩=some (.int .i64 n):=fun w' hb=>(hb.cell (p:=⟨w.heap.size,1,none⟩) (by simp)).trans (by rw[World.cell?_alloc_at _ _ _ _ rfl];rfl);have C1:=zH c1;clear c1;by_cases h0:n=0
   ·subst h0;go_enter Tryz.func84,Tryz.ntmps84;go_wp2_with(go_at_call 89;(with_reducible refine(isB (aB _ _ _) R).mono ?_);rintro e w' ⟨rfl,hb⟩;have q1:=C1.out _ hb)
    go_ret;exact⟨by rw[E.out];rfl,HW.out.trans (hb.mono HW.out.size)⟩
   ·have h0':(n==0)=false:=by simpa using h0
    go_enter Tryz.func84,Tryz.ntmps84;go_wp2_with(go_at_call 89;(with_reducible refine(isB (aB _ _ _) R).mono ?_);rintro e w' ⟨rfl,hb⟩;have q1:=C1.out _ hb)
    go_ret;exact⟨by rw[E.out];simp[h0],HW.out.trans (hb.mono HW.out.size)⟩
def jb{α:Type}(p:α->Bool)(l:List α)(n:Int):Bool:=decide ((l.length:Int)<=n)&& l.all p
theorem qhq{α:Type}{p:α->Bool}{l:List α}{n:Int}(h:¬(l.length:Int)<=n):jb p l n=false:=by unfold jb;rw[Xf h];rfl
theorem wH{α:Type}{p:α->Bool}{l:List α}{n:Int}(h:(l.length:Int)<=n):jb p l n=l.all p:=by unfold jb;rw[Xi h];rfl
theorem Eg(l:List (Int×Int))(n:Int):jb qG l n=JR l n:=by
 unfold jb JR;rw[XQ];simp
theorem Ld(l:List Int)(n most:Int):jb (fun x=>qF x 0 most) l n=Ju l n most:=by
 unfold jb Ju qF;rw[XQ];simp
theorem lfWa{P:Prop}(h:P:=by
 go_wp2
 go_ret;exact⟨by rw[qhq (show ¬(l.length:Int)<=n by omega)];rfl,zb _ _⟩):P:=h
theorem lfWc{P:Prop}(h:P:=by
 have aZ:=zH (fun g:p l[k]=false=>JP hlt g);have vy:=zH (fun g:p l[k]=true=>Jk hlt HN.out g);have Zq:=zi HX HA.out;generalize l[k]=t at*
 obtain⟨r,hr⟩:=zj (p t);have R:=zH hr;clear hr;cases r
 ·go_wp2_with((first|go_at_call 84|go_at_call 88|go_at_call 127|go_at_call 126|go_at_call 82|go_at_call 86);(with_reducible refine(CT.out _ HA.out).mono ?_);rintro e w1 ⟨he,hb⟩;rw[R.out]at he;subst he;have Zq:=zi Zq hb;clear hb)
  go_ret;exact⟨by rw[E.out,aZ.out R.out];rfl,Zq.out⟩
 ·go_wp2_with((first|go_at_call 84|go_at_call 88|go_at_call 127|go_at_call 126|go_at_call 82|go_at_call 86);(with_reducible refine(CT.out _ HA.out).mono ?_);rintro e w1 ⟨he,hb⟩;rw[R.out]at he;subst he;have Zq:=zi Zq hb;clear hb)
  go_roundw;case rel=>exact⟨k+1,by omega,by go_num,zH (vy.out R.out),Zq⟩
  case measure=>simp[intOf];omega):P:=h
theorem lfWd{P:Prop}(h:P:=by
 go_wp2_with fail
 go_ret;exact⟨by rw[E.out,JQ HN.out (by omega)];rfl,HX.out⟩):P:=h
set_option maxHeartbeats 1600000 in
theorem yN{l:List (Int×Int)}{n:Int}{A:Option Addr}{cap B:Nat}{w0 w:World}(qN:Hid (zd zf 2 w0 B A cap l))(HB0:Hid (B<=w0.heap.size))(HX0:Hid (Below w0.heap.size w0 w)):
  ZG 83 #[.slice A l.length cap,.int .i64 n,.func (.func 84) #[] #[]] (jb qG l n) w:=by
 have hlc:=qN.out.le;have hcm:=qN.out.cap;have HL:=zH (qN.out.below_to zf.keeps HX0.out HB0.out);have HB:=zH (Xe HB0.out HX0.out.size);clear qN HB0 HX0;obtain⟨p,hp⟩:=zj (qG);rw[hp];go_enter Tryz.func83,Tryz.ntmps83;by_cases hn:n<l.length
 ·exact lfWa
 have E:=zH (wH (p:=p) (show(l.length:Int)<=n by omega));go_wp2
 go_loopw [15] (fun i wr=>∃k:Nat,k<=l.length/\i= .int .i64 k/\Hid (∀t ∈l.take k,p t=true)/\Hid (Below w.heap.size w wr)) (fun i _=>l.length - (intOf i).toNat)
 case atStart=>exact⟨0,by omega,rfl,zH (by simp),zH (zb _ _)⟩
 case round=>
  obtain⟨k,hk,rfl,HN,HX⟩:=hrel;by_cases hlt:k<l.length
  ·obtain⟨ad,rfl,hab,q0,q1⟩:=(HL.out.below_to zf.keeps HX.out HB.out).row.at_ hlt;have HA:=zH (zk (w:=wr) (o:=(.cells #[.int .i64 l[k].1,.int .i64 l[k].2] 45)));have CT:Hid (∀w1,Below wr.heap.size wr w1->ZG 84 #[zF l[k].1 l[k].2] (p l[k]) w1):=zH fun w1 hb=>by rw[<-hp];exact Ws _ w1
   exact lfWc
  ·exact lfWd
theorem J6{l:List (Int)}{n:Int}{A:Option Addr}{cap B:Nat}{w0 w:World}(qN:Hid (zd zu 1 w0 B A cap l))(HB0:Hid (B<=w0.heap.size))(HX0:Hid (Below w0.heap.size w0 w)):
  ZG 87 #[.slice A l.length cap,.int .i64 n,.func (.func 88) #[] #[]] (jb iK l n) w:=by
 have hlc:=qN.out.le;have hcm:=qN.out.cap;have HL:=zH (qN.out.below_to zu.keeps HX0.out HB0.out);have HB:=zH (Xe HB0.out HX0.out.size);clear qN HB0 HX0;obtain⟨p,hp⟩:=zj (iK);rw[hp];go_enter Tryz.func87,Tryz.ntmps87;by_cases hn:n<l.length
 ·exact lfWa
 have E:=zH (wH (p:=p) (show(l.length:Int)<=n by omega));go_wp2
 go_loopw [15] (fun i wr=>∃k:Nat,k<=l.length/\i= .int .i64 k/\Hid (∀t ∈l.take k,p t=true)/\Hid (Below w.heap.size w wr)) (fun i _=>l.length - (intOf i).toNat)
 case atStart=>exact⟨0,by omega,rfl,zH (by simp),zH (zb _ _)⟩
 case round=>
  obtain⟨k,hk,rfl,HN,HX⟩:=hrel;by_cases hlt:k<l.length
  ·obtain⟨ad,rfl,hab,q0⟩:=(HL.out.below_to zu.keeps HX.out HB.out).row.at_ hlt;rw[Xq]at q0;have ug:wr.cell? (ad.add k)=some (.int .i64 l[k]):=q0;clear q0;have HA:=zH (zb wr.heap.size wr);have CT:Hid (∀w1,Below wr.heap.size wr w1->ZG 88 #[.int .i64 l[k]] (p l[k]) w1):=zH fun w1 hb=>by rw[<-hp];exact qd6 _ w1
   exact lfWc
  ·exact lfWd
set_option maxHeartbeats 1600000 in
theorem q83{l:List (Int)}{n:Int}{A:Option Addr}{cap B:Nat}{w0 w:World}(qN:Hid (zd zu 1 w0 B A cap l))(HB0:Hid (B<=w0.heap.size))(HX0:Hid (Below w0.heap.size w0 w)):
  ZG 87 #[.slice A l.length cap,.int .i64 n,.func (.func 127) #[] #[]] (jb iI l n) w:=by
 have hlc:=qN.out.le;have hcm:=qN.out.cap;have HL:=zH (qN.out.below_to zu.keeps HX0.out HB0.out);have HB:=zH (Xe HB0.out HX0.out.size);clear qN HB0 HX0;obtain⟨p,hp⟩:=zj (iI);rw[hp];go_enter Tryz.func87,Tryz.ntmps87;by_cases hn:n<l.length
 ·exact lfWa
 have E:=zH (wH (p:=p) (show(l.length:Int)<=n by omega));go_wp2
 go_loopw [15] (fun i wr=>∃k:Nat,k<=l.length/\i= .int .i64 k/\Hid (∀t ∈l.take k,p t=true)/\Hid (Below w.heap.size w wr)) (fun i _=>l.length - (intOf i).toNat)
 case atStart=>exact⟨0,by omega,rfl,zH (by simp),zH (zb _ _)⟩
 case round=>
  obtain⟨k,hk,rfl,HN,HX⟩:=hrel;by_cases hlt:k<l.length
  ·obtain⟨ad,rfl,hab,q0⟩:=(HL.out.below_to zu.keeps HX.out HB.out).row.at_ hlt;rw[Xq]at q0;have ug:wr.cell? (ad.add k)=some (.int .i64 l[k]):=q0;clear q0;have HA:=zH (zb wr.heap.size wr);have CT:Hid (∀w1,Below wr.heap.size wr w1->ZG 127 #[.int .i64 l[k]] (p l[k]) w1):=zH fun w1 hb=>by rw[<-hp];exact Wt _ w1
   exact lfWc
  ·exact lfWd
def insB(i:Int×Int×Int):Bool:=qs i.1 i.2.1 i.2.2
set_option maxHeartbeats 1600000 in
theorem q84{l:List (Int×Int×Int)}{n:Int}{A:Option Addr}{cap B:Nat}{w0 w:World}(qN:Hid (zd ju 3 w0 B A cap l))(HB0:Hid (B<=w0.heap.size))(HX0:Hid (Below w0.heap.size w0 w)):
  ZG 125 #[.slice A l.length cap,.int .i64 n,.func (.func 126) #[] #[]] (jb insB l n) w:=by
 have hlc:=qN.out.le;have hcm:=qN.out.cap;have HL:=zH (qN.out.below_to ju.keeps HX0.out HB0.out);have HB:=zH (Xe HB0.out HX0.out.size);clear qN HB0 HX0;obtain⟨p,hp⟩:=zj (insB);rw[hp];go_enter Tryz.func125,Tryz.ntmps125;by_cases hn:n<l.length
 ·exact lfWa
 have E:=zH (wH (p:=p) (show(l.length:Int)<=n by omega));go_wp2
 go_loopw [15] (fun i wr=>∃k:Nat,k<=l.length/\i= .int .i64 k/\Hid (∀t ∈l.take k,p t=true)/\Hid (Below w.heap.size w wr)) (fun i _=>l.length - (intOf i).toNat)
 case atStart=>exact⟨0,by omega,rfl,zH (by simp),zH (zb _ _)⟩
 case round=>
  obtain⟨k,hk,rfl,HN,HX⟩:=hrel;by_cases hlt:k<l.length
  ·obtain⟨ad,rfl,hab,q0,q1,q2⟩:=(HL.out.below_to ju.keeps HX.out HB.out).row.at_ hlt;have HA:=zH (zk (w:=wr) (o:=(.cells #[.int .i64 l[k].1,.int .i64 l[k].2.1,.int .i64 l[k].2.2] 50)));have CT:Hid (∀w1,Below wr.heap.size wr w1->ZG 126 #[qt l[k].1 l[k].2.1 l[k].2.2] (p l[k]) w1):=zH fun w1 hb=>by rw[<-hp];exact qd7 _ _ _ w1
   exact lfWc
  ·exact lfWd
theorem qfd{n:Int}(h: -9223372036854775808<=n/\n<=9223372036854775807):qF (wrap64 (n+1)) 0 8=qF n (-1) 7:=by
 unfold qF wrap64;rw[Wj];omega
theorem qi6(c:zW)(h: -9223372036854775808<=c.sup/\c.sup<=9223372036854775807):Qa c=(qF (wrap64 (c.sup+1)) 0 8&& (jb qG c.fields 8&& jb iK c.slots 4)):=by
 rw[qfd h,Eg,show jb iK c.slots 4=Ju c.slots 4 11 from Ld ..];rfl
theorem qh1(x:zl):vi x=(jb qG x.args 4&& (jb qG x.locals 8&& (qG x.ret&& (jb insB x.code 64&& (qF x.depth 0 8&& (iI x.pot&& jb iI x.phi 64)))))):=by
 rw[Eg,Eg,show jb iI x.phi 64=Ju x.phi 64 4096 from Ld ..];unfold vi wT jb insB iI
 ac_rfl
theorem qdp(m:za):zV m=(jb Qa m.classes 8&& (jb qG m.statics 8&& (decide ((m.ints.length:Int)<=16)&& (jb vi m.methods 12&& (jb iK m.entries 12&& (qF m.stack 0 4096&& qF m.heap 0 4096)))))):=by
 rw[Eg,show jb iK m.entries 12=Ju m.entries 12 11 from Ld ..];unfold zV VH jb
 ac_rfl
set_option maxHeartbeats 1600000 in
theorem qhg(c:zW)(A1 A2:Option Addr)(k1 k2 B:Nat)(w:World)(hB:B<=w.heap.size)(h1:zd zf 2 w B A1 k1 c.fields)(h2:zd zu 1 w B A2 k2 c.slots)(hr: -9223372036854775808<=c.sup/\c.sup<=9223372036854775807):
  ZG 82 #[.agg #[.int .i64 c.sup,.slice A1 c.fields.length k1,.slice A2 c.slots.length k2]] (Qa c) w:=by
 have HW:=zH (zk (w:=w) (o:=(.cells #[.int .i64 c.sup,.slice A1 c.fields.length k1,.slice A2 c.slots.length k2] 60)));have HZ2:Hid (w.heap.size<(w.alloc (.cells #[.int .i64 c.sup,.slice A1 c.fields.length k1,.slice A2 c.slots.length k2] 60)).heap.size):=zH (by simp);have QX:=zH (qr w [.int .i64 c.sup,.slice A1 c.fields.length k1,.slice A2 c.slots.length k2] 60);have HB2:=zH (Xe hB HW.out.size);have VY:=zH (h1.below_to zf.keeps HW.out hB);have az:=zH (h2.below_to zu.keeps HW.out hB);clear h1 h2;obtain⟨d0,hd0⟩:∃b,qF (wrap64 (c.sup+1)) 0 8=b:=⟨_,rfl⟩
 have D0:=zH hd0;obtain⟨d1,hd1⟩:∃b,jb qG c.fields 8=b:=⟨_,rfl⟩
 have D1:=zH hd1;obtain⟨d2,hd2⟩:∃b,jb iK c.slots 4=b:=⟨_,rfl⟩
 have D2:=zH hd2;have E0:=qi6 c hr;rw[hd0,hd1,hd2]at E0;have E:=zH E0;clear E0 hB hr hd0 hd1 hd2;go_enter Tryz.func82,Tryz.ntmps82;go_upto_region 1 with fail
 generalize w.alloc (.cells #[.int .i64 c.sup,.slice A1 c.fields.length k1,.slice A2 c.slots.length k2] 60)=w2 at*
 have HX2:=qP w2;obtain⟨r0,r1,r2⟩:=qv QX.out;cases d0;rotate_left;cases d1;rotate_left;cases d2;iterate 4
  ·go_wp2_with((first|(go_at_call 89;(with_reducible refine(isB (aB _ _ _) D0).mono ?_))|(go_at_call 83;(with_reducible refine(isB (yN VY HB2 HX2) D1).mono ?_))|(go_at_call 87;(with_reducible refine(isB (J6 az HB2 HX2) D2).mono ?_)));rintro e w' ⟨rfl,hb⟩;have HX2:=zi HX2 hb;obtain⟨r0,r1,r2⟩:=qv (QX.out.keep HX2.out HZ2.out);clear hb)
   go_ret;exact⟨by rw[E.out];first|rfl|simp[*],zD HW HX2⟩
set_option maxHeartbeats 3200000 in
theorem qhe(x:zl)(A0 A1 A4 A7:Option Addr)(k0 k1 k4 k7 B:Nat)(w:World)(hB:B<=w.heap.size)(h0:zd zf 2 w B A0 k0 x.args)(h1:zd zf 2 w B A1 k1 x.locals)(h4:zd ju 3 w B A4 k4 x.code)(h7:zd zu 1 w B A7 k7 x.phi):
  ZG 86 #[.agg #[.slice A0 x.args.length k0,.slice A1 x.locals.length k1,.int .i64 x.ret.1,.int .i64 x.ret.2,.slice A4 x.code.length k4,.int .i64 x.depth,.int .i64 x.pot,.slice A7 x.phi.length k7]] (vi x) w:=by
 have HW:=zH (zk (w:=w) (o:=(.cells #[.slice A0 x.args.length k0,.slice A1 x.locals.length k1,.int .i64 x.ret.1,.int .i64 x.ret.2,.slice A4 x.code.length k4,.int .i64 x.depth,.int .i64 x.pot,.slice A7 x.phi.length k7] 48)));have HZ2:Hid (w.heap.size<(w.alloc (.cells #[.slice A0 x.args.length k0,.slice A1 x.locals.length k1,.int .i64 x.ret.1,.int .i64 x.ret.2,.slice A4 x.code.length k4,.int .i64 x.depth,.int .i64 x.pot,.slice A7 x.phi.length k7] 48)).heap.size):=zH (by simp);have QX:=zH (qr w [.slice A0 x.args.length k0,.slice A1 x.locals.length k1,.int .i64 x.ret.1,.int .i64 x.ret.2,.slice A4 x.code.length k4,.int .i64 x.depth,.int .i64 x.pot,.slice A7 x.phi.length k7] 48);have HB2:=zH (Xe hB HW.out.size);have bf:=zH (h0.below_to zf.keeps HW.out hB);have Zu:=zH (h1.below_to zf.keeps HW.out hB);have HSc:=zH (h4.below_to ju.keeps HW.out hB);have lc:=zH (h7.below_to zu.keeps HW.out hB);clear h0 h1 h4 h7;obtain⟨d0,hd0⟩:∃b,jb qG x.args 4=b:=⟨_,rfl⟩
 have D0:=zH hd0;obtain⟨d1,hd1⟩:∃b,jb qG x.locals 8=b:=⟨_,rfl⟩
 have D1:=zH hd1;obtain⟨d2,hd2⟩:∃b,qG x.ret=b:=⟨_,rfl⟩
 have D2:=zH hd2;obtain⟨d3,hd3⟩:∃b,jb insB x.code 64=b:=⟨_,rfl⟩
 have D3:=zH hd3;obtain⟨d4,hd4⟩:∃b,qF x.depth 0 8=b:=⟨_,rfl⟩
 have D4:=zH hd4;obtain⟨d5,hd5⟩:∃b,iI x.pot=b:=⟨_,rfl⟩
 have D5:=zH hd5;obtain⟨d6,hd6⟩:∃b,jb iI x.phi 64=b:=⟨_,rfl⟩
 have D6:=zH hd6;have E0:=qh1 x;rw[hd0,hd1,hd2,hd3,hd4,hd5,hd6]at E0;have E:=zH E0;clear E0 hB hd0 hd1 hd2 hd3 hd4 hd5 hd6;go_enter Tryz.func86,Tryz.ntmps86;go_upto_region 1 with fail
 generalize w.alloc (.cells #[.slice A0 x.args.length k0,.slice A1 x.locals.length k1,.int .i64 x.ret.1,.int .i64 x.ret.2,.slice A4 x.code.length k4,.int .i64 x.depth,.int .i64 x.pot,.slice A7 x.phi.length k7] 48)=w2 at*
 have HX2:=qP w2;obtain⟨r0,r1,r2,r3,r4,r5,r6,r7⟩:=qp QX.out;cases d0;rotate_left;cases d1;rotate_left;cases d2;rotate_left;cases d3;rotate_left;cases d4;rotate_left;cases d5;rotate_left;cases d6;iterate 8
  ·go_wp2_with((first|(go_at_call 83;(with_reducible refine(isB (yN bf HB2 HX2) D0).mono ?_))|(go_at_call 83;(with_reducible refine(isB (yN Zu HB2 HX2) D1).mono ?_))|(go_at_call 84;(with_reducible refine(isB (Ws _ _) D2).mono ?_))|(go_at_call 125;(with_reducible refine(isB (q84 HSc HB2 HX2) D3).mono ?_))|(go_at_call 89;(with_reducible refine(isB (aB _ _ _) D4).mono ?_))|(go_at_call 127;(with_reducible refine(isB (Wt _ _) D5).mono ?_))|(go_at_call 87;(with_reducible refine(isB (q83 lc HB2 HX2) D6).mono ?_)));rintro e w' ⟨rfl,hb⟩;have HX2:=zi HX2 hb;obtain⟨r0,r1,r2,r3,r4,r5,r6,r7⟩:=qp (QX.out.keep HX2.out HZ2.out);clear hb)
   go_ret;exact⟨by rw[E.out];first|rfl|simp[*],zD HW HX2⟩
set_option maxHeartbeats 1600000 in
theorem O9{l:List (zW)}{n:Int}{A:Option Addr}{cap B:Nat}{w0 w:World}(qN:Hid (zd vw 3 w0 B A cap l))(HB0:Hid (B<=w0.heap.size))(HX0:Hid (Below w0.heap.size w0 w)):
  ZG 81 #[.slice A l.length cap,.int .i64 n,.func (.func 82) #[] #[]] (jb Qa l n) w:=by
 have hlc:=qN.out.le;have hcm:=qN.out.cap;have HL:=zH (qN.out.below_to vw.keeps HX0.out HB0.out);have HB:=zH (Xe HB0.out HX0.out.size);clear qN HB0 HX0;obtain⟨p,hp⟩:=zj (Qa);rw[hp];go_enter Tryz.func81,Tryz.ntmps81;by_cases hn:n<l.length
 ·exact lfWa
 have E:=zH (wH (p:=p) (show(l.length:Int)<=n by omega));go_wp2
 go_loopw [15] (fun i wr=>∃k:Nat,k<=l.length/\i= .int .i64 k/\Hid (∀t ∈l.take k,p t=true)/\Hid (Below w.heap.size w wr)) (fun i _=>l.length - (intOf i).toNat)
 case atStart=>exact⟨0,by omega,rfl,zH (by simp),zH (zb _ _)⟩
 case round=>
  obtain⟨k,hk,rfl,HN,HX⟩:=hrel;by_cases hlt:k<l.length
  ·obtain⟨ad,rfl,hab,s0,⟨A1,k1,s1,hs1⟩,⟨A2,k2,s2,hs2⟩,hrg⟩:=(HL.out.below_to vw.keeps HX.out HB.out).row.at_ hlt;have hBr:B<=wr.heap.size:=Xe HB.out HX.out.size;have HA:=zH (zk (w:=wr) (o:=(.cells #[.int .i64 l[k].sup,.slice A1 l[k].fields.length k1,.slice A2 l[k].slots.length k2] 60)));have CT:Hid (∀w1,Below wr.heap.size wr w1->ZG 82 #[.agg #[.int .i64 l[k].sup,.slice A1 l[k].fields.length k1,.slice A2 l[k].slots.length k2]] (p l[k]) w1):=zH fun w1 hb=>by rw[<-hp];exact qhg _ _ _ _ _ B w1 (Xe hBr hb.size) (hs1.below_to zf.keeps hb hBr) (hs2.below_to zu.keeps hb hBr) hrg
   clear hBr hs1 hs2 hrg;exact lfWc
  ·exact lfWd
set_option maxHeartbeats 1600000 in
theorem O8{l:List (zl)}{n:Int}{A:Option Addr}{cap B:Nat}{w0 w:World}(qN:Hid (zd kd 8 w0 B A cap l))(HB0:Hid (B<=w0.heap.size))(HX0:Hid (Below w0.heap.size w0 w)):
  ZG 85 #[.slice A l.length cap,.int .i64 n,.func (.func 86) #[] #[]] (jb vi l n) w:=by
 have hlc:=qN.out.le;have hcm:=qN.out.cap;have HL:=zH (qN.out.below_to kd.keeps HX0.out HB0.out);have HB:=zH (Xe HB0.out HX0.out.size);clear qN HB0 HX0;obtain⟨p,hp⟩:=zj (vi);rw[hp];go_enter Tryz.func85,Tryz.ntmps85;by_cases hn:n<l.length
 ·exact lfWa
 have E:=zH (wH (p:=p) (show(l.length:Int)<=n by omega));go_wp2
 go_loopw [15] (fun i wr=>∃k:Nat,k<=l.length/\i= .int .i64 k/\Hid (∀t ∈l.take k,p t=true)/\Hid (Below w.heap.size w wr)) (fun i _=>l.length - (intOf i).toNat)
 case atStart=>exact⟨0,by omega,rfl,zH (by simp),zH (zb _ _)⟩
 case round=>
  obtain⟨k,hk,rfl,HN,HX⟩:=hrel;by_cases hlt:k<l.length
  ·obtain⟨ad,rfl,hab,⟨A0,k0,s0,hs0⟩,⟨A1,k1,s1,hs1⟩,s2,s3,⟨A4,k4,s4,hs4⟩,s5,s6,⟨A7,k7,s7,hs7⟩⟩:=(HL.out.below_to kd.keeps HX.out HB.out).row.at_ hlt;have hBr:B<=wr.heap.size:=Xe HB.out HX.out.size;have HA:=zH (zk (w:=wr) (o:=(.cells #[.slice A0 l[k].args.length k0,.slice A1 l[k].locals.length k1,.int .i64 l[k].ret.1,.int .i64 l[k].ret.2,.slice A4 l[k].code.length k4,.int .i64 l[k].depth,.int .i64 l[k].pot,.slice A7 l[k].phi.length k7] 48)));have CT:Hid (∀w1,Below wr.heap.size wr w1->ZG 86 #[.agg #[.slice A0 l[k].args.length k0,.slice A1 l[k].locals.length k1,.int .i64 l[k].ret.1,.int .i64 l[k].ret.2,.slice A4 l[k].code.length k4,.int .i64 l[k].depth,.int .i64 l[k].pot,.slice A7 l[k].phi.length k7]] (p l[k]) w1):=zH fun w1 hb=>by rw[<-hp];exact qhe _ _ _ _ _ _ _ _ _ B w1 (Xe hBr hb.size) (hs0.below_to zf.keeps hb hBr) (hs1.below_to zf.keeps hb hBr) (hs4.below_to ju.keeps hb hBr) (hs7.below_to zu.keeps hb hBr)
   clear hBr hs0 hs1 hs4 hs7;exact lfWc
  ·exact lfWd
theorem uM{P:Prop}(h:P:=by
 go_wp2_with((first|(go_at_call 81;(with_reducible refine(isB (O9 aY HB2 HX2) D0).mono ?_))|(go_at_call 83;(with_reducible refine(isB (yN qZ HB2 HX2) D1).mono ?_))|(go_at_call 85;(with_reducible refine(isB (O8 jM HB2 HX2) D3).mono ?_))|(go_at_call 87;(with_reducible refine(isB (J6 Qi HB2 HX2) D4).mono ?_))|(go_at_call 89;(with_reducible refine(isB (aB _ _ _) D5).mono ?_))|(go_at_call 89;(with_reducible refine(isB (aB _ _ _) D6).mono ?_)));rintro e w' ⟨rfl,hb⟩;have HX2:=zi HX2 hb;obtain⟨r0,r1,r2,r3,r4,r5,r6⟩:=ck7 (QX.out.keep HX2.out HZ2.out);clear hb)
 go_ret;exact⟨by rw[E.out];first|rfl|simp[*],zD HW HX2⟩):P:=h
set_option maxHeartbeats 3200000 in
theorem KI(m:za)(h:zh)(B:Nat)(w:World)(hB:B<=w.heap.size)(H:zr w B h m):
  ZG 48 #[zv h m] (zV m) w:=by
 have HW:=zH (zk (w:=w) (o:=(.cells #[.slice h.A0 m.classes.length h.c0,.slice h.A1 m.statics.length h.c1,.slice h.A2 m.ints.length h.c2,.slice h.A3 m.methods.length h.c3,.slice h.A4 m.entries.length h.c4,.int .i64 m.stack,.int .i64 m.heap] 29)));have HZ2:Hid (w.heap.size<(w.alloc (.cells #[.slice h.A0 m.classes.length h.c0,.slice h.A1 m.statics.length h.c1,.slice h.A2 m.ints.length h.c2,.slice h.A3 m.methods.length h.c3,.slice h.A4 m.entries.length h.c4,.int .i64 m.stack,.int .i64 m.heap] 29)).heap.size):=zH (by simp);have QX:=zH (qr w [.slice h.A0 m.classes.length h.c0,.slice h.A1 m.statics.length h.c1,.slice h.A2 m.ints.length h.c2,.slice h.A3 m.methods.length h.c3,.slice h.A4 m.entries.length h.c4,.int .i64 m.stack,.int .i64 m.heap] 29);have HB2:=zH (Xe hB HW.out.size);have HM:=zH (H.below_to HW.out hB);have aY:=zH HM.out.classes;have qZ:=zH HM.out.statics;have jM:=zH HM.out.methods;have Qi:=zH HM.out.entries;have hi1:=H.ints.le;have hi2:=H.ints.cap;clear H;obtain⟨d0,hd0⟩:∃b,jb Qa m.classes 8=b:=⟨_,rfl⟩
 have D0:=zH hd0;obtain⟨d1,hd1⟩:∃b,jb qG m.statics 8=b:=⟨_,rfl⟩
 have D1:=zH hd1;obtain⟨d3,hd3⟩:∃b,jb vi m.methods 12=b:=⟨_,rfl⟩
 have D3:=zH hd3;obtain⟨d4,hd4⟩:∃b,jb iK m.entries 12=b:=⟨_,rfl⟩
 have D4:=zH hd4;obtain⟨d5,hd5⟩:∃b,qF m.stack 0 4096=b:=⟨_,rfl⟩
 have D5:=zH hd5;obtain⟨d6,hd6⟩:∃b,qF m.heap 0 4096=b:=⟨_,rfl⟩
 have D6:=zH hd6;have E0:=qdp m;rw[hd0,hd1,hd3,hd4,hd5,hd6]at E0;have E:=zH E0;clear E0 hB hd0 hd1 hd3 hd4 hd5 hd6;go_enter Tryz.func48,Tryz.ntmps48;go_upto_region 1 with fail
 generalize w.alloc (.cells #[.slice h.A0 m.classes.length h.c0,.slice h.A1 m.statics.length h.c1,.slice h.A2 m.ints.length h.c2,.slice h.A3 m.methods.length h.c3,.slice h.A4 m.entries.length h.c4,.int .i64 m.stack,.int .i64 m.heap] 29)=w2 at*
 have HX2:=qP w2;obtain⟨r0,r1,r2,r3,r4,r5,r6⟩:=ck7 QX.out;cases d0;rotate_left;cases d1;rotate_left;rotate_left;iterate 2
  ·exact uM
 by_cases c2:(m.ints.length:Int)<=16
 ·cases d3
  ·exact uM
  ·cases d4
   ·exact uM
   ·cases d5
    ·exact uM
    ·cases d6
     ·exact uM
     ·exact uM
 ·go_wp2_with((first|(go_at_call 81;(with_reducible refine(isB (O9 aY HB2 HX2) D0).mono ?_))|(go_at_call 83;(with_reducible refine(isB (yN qZ HB2 HX2) D1).mono ?_))|(go_at_call 85;(with_reducible refine(isB (O8 jM HB2 HX2) D3).mono ?_))|(go_at_call 87;(with_reducible refine(isB (J6 Qi HB2 HX2) D4).mono ?_))|(go_at_call 89;(with_reducible refine(isB (aB _ _ _) D5).mono ?_))|(go_at_call 89;(with_reducible refine(isB (aB _ _ _) D6).mono ?_)));rintro e w' ⟨rfl,hb⟩;have HX2:=zi HX2 hb;obtain⟨r0,r1,r2,r3,r4,r5,r6⟩:=ck7 (QX.out.keep HX2.out HZ2.out);clear hb)
  go_ret;exact⟨by rw[E.out];rw[Xf (p:=(m.ints.length:Int)<=16) (by omega)];first|rfl|simp,zD HW HX2⟩
theorem Ub{m:za}{h:zh}{w:World}{r:Bool}(H:Hid (zr w w.heap.size h m))(HR:Hid (zV m=r)):
  Calls Tryz.prog 48 #[zv h m] w fun e w'=>e= .returned (.bool r)/\Below w.heap.size w w':=by
 have h:=KI m h w.heap.size w (zn _) H.out;rw[HR.out]at h;exact h
theorem RL{w w2:World}(hb:Below (w.alloc Jp).heap.size (w.alloc Jp) w2):zw w2 w2.heap.size (some ⟨w.heap.size,0,none⟩) (jm.map (Value.int .u8)):=fun j u hu=>by
 have hz:(w.alloc Jp).heap.size=w.heap.size+1:=by simp
 have:=hb.size;exact⟨_,rfl,by grind,(hb.cell (p:=Addr.add ⟨w.heap.size,0,none⟩ j) (by grind [zC])).trans (RN w j u hu)⟩
theorem qib(l m:List Int)(A A':Option Addr)(cap cap' n n' B:Nat)(w:World)(hn:l.length=n)(hn':m.length=n')(hr:∀b ∈l,0<=b/\b<=255)(hr':∀b ∈m,0<=b/\b<=255)
  (h:zw w B A (l.map (Value.int .u8))) (h':zw w B A' (m.map (Value.int .u8))):
  Calls Tryz.prog 119 #[.slice A n cap,.slice A' n' cap'] w fun e w'=>e= .returned (.bool (decide (l=m)))/\w=w':=by
 subst hn hn';have E:=zH (q0l hr hr');have k1:=mG (cap:=cap) h;have k2:=mG (cap:=cap') h';clear hr hr' h h';go_enter Tryz.func119,Tryz.ntmps119;go_wp2
 go_ret;exact⟨by rw[<-E.out];rfl,rfl⟩
theorem Ra(l:List Int)(A:Option Addr)(cap B g:Nat)(w:World)(hl:l.length<=cap)(hc:cap<=9223372036854775807)(hr:∀b ∈l,0<=b/\b<=255)
  (h:zw w B A (l.map (Value.int .u8))) (h':zw w B (some ⟨g,0,none⟩) (jm.map (Value.int .u8))):
  Calls Tryz.prog 68 #[.slice A l.length cap,.slice (some ⟨g,0,none⟩) 4 4] w fun e w'=>e= .returned (.bool (decide (l.take 4=jm)))/\w=w':=by
 by_cases h4:l.length<4
 ·have E:=zH (show decide (l.take 4=jm)=false from Xf (fun e=>by have:=congrArg List.length e;simp[jm]at this;omega));go_enter Tryz.func68,Tryz.ntmps68;go_wp2
  go_ret;exact⟨by rw[E.out];rfl,rfl⟩
 ·have HE:=zH (fun c1=>qib (l.take 4) jm A (some ⟨g,0,none⟩) c1 4 4 4 B w (by grind) rfl (by grind) (by simp[jm]) (by have:=h.take_ 4;simp_all) h');clear hr h h';go_enter Tryz.func68,Tryz.ntmps68;go_wp2_with(go_at_call 119;(with_reducible refine(HE.out _).mono ?_);rintro e w' ⟨rfl,rfl⟩)
  go_ret;simp_all
def CutPre(l:List Int)(w:World)(e:Ending)(w':World):Prop:=
 ∃A' cap',e= .returned (.tuple #[.slice A' (l.drop 4).length cap',.bool true])/\zw w w.heap.size A' ((l.drop 4).map (Value.int .u8))/\(A'=none->cap'=0)/\w=w'
theorem q0c(l:List Int)(A:Option Addr)(cap B g:Nat)(w:World)(hl:l.length<=cap)(hc:cap<=9223372036854775807)(hr:∀b ∈l,0<=b/\b<=255)
  (h:zw w B A (l.map (Value.int .u8))) (h':zw w B (some ⟨g,0,none⟩) (jm.map (Value.int .u8))) (hn:¬l.take 4=jm):
  Calls Tryz.prog 44 #[.slice A l.length cap,.slice (some ⟨g,0,none⟩) 4 4] w fun e w'=>e= .returned (.tuple #[.slice A l.length cap,.bool false])/\w=w':=by
 have HE:=zH (Ra l A cap B g w hl hc hr h h');rw[Xf hn]at HE;clear hr h h' hn;go_enter Tryz.func44,Tryz.ntmps44;go_wp2_with(go_at_call 68;(with_reducible refine HE.out.mono ?_);rintro e w' ⟨rfl,rfl⟩)
 go_ret2
 simp_all
theorem WP(l:List Int)(A:Option Addr)(cap B g:Nat)(w:World)(hl:l.length<=cap)(hc:cap<=9223372036854775807)(hr:∀b ∈l,0<=b/\b<=255)(hB:B<=w.heap.size)
  (h:zw w B A (l.map (Value.int .u8))) (h':zw w B (some ⟨g,0,none⟩) (jm.map (Value.int .u8))) (hn:l.take 4=jm):
  Calls Tryz.prog 44 #[.slice A l.length cap,.slice (some ⟨g,0,none⟩) 4 4] w (CutPre l w):=by
 have HE:=zH (Ra l A cap B g w hl hc hr h h');rw[Xi hn]at HE;have h4:4<=l.length:=by have:=congrArg List.length hn;simp[jm]at this;omega
 obtain⟨ad,rfl,hab,_⟩:=h.at_ (k:=0) (by simp;omega);have HL:=zH h;have HB:=zH hB;have HD:=zH (show(l.drop 4).length=l.length - 4 by simp);clear hr h h' hn hB;by_cases hc4:cap=4
 ·subst hc4;have hl4:l.length=4:=by omega
  have JE:=zH hl4;rw[hl4];rw[hl4]at HE;clear hl4;go_enter Tryz.func44,Tryz.ntmps44;go_wp2_with(go_at_call 68;(with_reducible refine HE.out.mono ?_);rintro e w' ⟨rfl,rfl⟩)
  go_ret2
  refine⟨_,_,by rw[HD.out,JE.out];rfl,?_,?_,rfl⟩
  ·rw[Wm (by rw[JE.out];exact zn _)];exact zw.nil
  omega
 ·go_enter Tryz.func44,Tryz.ntmps44;go_wp2_with(go_at_call 68;(with_reducible refine HE.out.mono ?_);rintro e w' ⟨rfl,rfl⟩)
  go_ret2
  refine⟨_,_,by rw[HD.out];rfl,?_,?_,rfl⟩
  ·have:=(HL.out.drop_ 4).more HB.out;rw[List.map_drop];exact this
  grind
theorem qid{w:World}{g:Nat}(HP:Hid (zw w w.heap.size (some ⟨g,0,none⟩) (jm.map (Value.int .u8)))):
  Calls Tryz.prog 44 #[.slice none 0 0,.slice (some ⟨g,0,none⟩) 4 4] w fun e w'=>e= .returned (.tuple #[.slice none 0 0,.bool false])/\w=w':=
 q0c [] none 0 w.heap.size g w (zn _) (by decide) (fun b hb=>by cases hb) (fun i v hi=>by cases hi) HP.out (by decide)
set_option maxHeartbeats 1600000 in
theorem q51(w:World):Calls Tryz.prog 27 #[.slice none 0 0] w fun e w'=>e= .returned (.tuple #[.agg #[.slice none 0 0,.slice none 0 0,.slice none 0 0,.slice none 0 0,.slice none 0 0,.int .i64 0,.int .i64 0],.int .i64 2])/\Below w.heap.size w w':=by
 have hs1:(w.alloc jV).heap.size=w.heap.size+1:=by simp
 have kc:=Ky (w.alloc jV) (w.heap.size+1) (by simp);have hW1:Below w.heap.size w (w.alloc jV):=zk;have hW2:Below (w.alloc jV).heap.size (w.alloc jV) ((w.alloc jV).alloc Jp):=zk;have HW:=zH (hW1.trans (hW2.mono hW1.size));have kI:Hid (zw ((w.alloc jV).alloc Jp) ((w.alloc jV).alloc Jp).heap.size (some ⟨w.heap.size+1,0,none⟩) (jm.map (Value.int .u8))):=zH (by rw[<-hs1];exact RL (zb _ _));have Zh:Hid (((w.alloc jV).alloc Jp).heap[w.heap.size]? =some (.cells Fs.toArray 29 (0,0))):=zH ((hW2.block _ (by omega)).trans (Xz _ _));clear hs1 hW1 hW2;go_enter Tryz.func27,Tryz.ntmps27;go_upto_region 1 with fail
 go_wp2_with(go_at_call 44;(with_reducible refine(qid kI).mono ?_);rintro e w' ⟨rfl,rfl⟩;have JJ:=Zh.out;have p0:=zR JJ 0 _ rfl;have p1:=zR JJ 1 _ rfl;have p2:=zR JJ 2 _ rfl;have p3:=zR JJ 3 _ rfl;have p4:=zR JJ 4 _ rfl;have p5:=zR JJ 5 _ rfl;have p6:=zR JJ 6 _ rfl;have g0:=zU JJ 0;have g1:=zU JJ 1;have g2:=zU JJ 2;have g3:=zU JJ 3;have g4:=zU JJ 4;have g5:=zU JJ 5;have g6:=zU JJ 6;clear JJ)
 refine Xk (v:= .tuple #[.agg #[.slice none 0 0,.slice none 0 0,.slice none 0 0,.slice none 0 0,.slice none 0 0,.int .i64 0,.int .i64 0],.int .i64 2]) (by simp[results,Tryz.results27,go_sem,p0,p1,p2,p3,p4,p5,p6]) rfl ⟨rfl,HW.out⟩
set_option maxHeartbeats 1600000 in
theorem qa6(w:World):Calls Tryz.prog 8 #[.slice none 0 0] w fun e w'=>e= .returned (.tuple #[.agg #[.slice none 0 0,.slice none 0 0,.slice none 0 0,.slice none 0 0,.slice none 0 0,.int .i64 0,.int .i64 0],.slice none 0 0,.int .i64 2])/\Below w.heap.size w w':=by
 have HW:=zH ((zb w.heap.size w).alloc (zn _) jV);have HZ:Hid (w.heap.size<(w.alloc jV).heap.size):=zH (by simp);have Zh:Hid ((w.alloc jV).heap[w.heap.size]? =some (.cells Fs.toArray 29 (0,0))):=zH (Xz _ _);go_enter Tryz.func8,Tryz.ntmps8;go_upto_region 1 with fail
 generalize w.alloc jV=w1 at*
 go_wp2_with(go_at_call 27;(with_reducible refine(q51 _).mono ?_);rintro e w2 ⟨rfl,hb⟩;have hb3:=(zb w2.heap.size w2).alloc (zn _) jV;have HW2:=zH (HW.out.trans ((hb.trans (hb3.mono hb.size)).mono HW.out.size));have JJ:=((hb3.block _ (Xp HZ.out hb.size)).trans (hb.block _ HZ.out)).trans Zh.out;clear hb hb3;have p0:=zR JJ 0 _ rfl;have p1:=zR JJ 1 _ rfl;have p2:=zR JJ 2 _ rfl;have p3:=zR JJ 3 _ rfl;have p4:=zR JJ 4 _ rfl;have p5:=zR JJ 5 _ rfl;have p6:=zR JJ 6 _ rfl;have g0:=zU JJ 0;have g1:=zU JJ 1;have g2:=zU JJ 2;have g3:=zU JJ 3;have g4:=zU JJ 4;have g5:=zU JJ 5;have g6:=zU JJ 6;clear JJ)
 refine Xk (v:= .tuple #[.agg #[.slice none 0 0,.slice none 0 0,.slice none 0 0,.slice none 0 0,.slice none 0 0,.int .i64 0,.int .i64 0],.slice none 0 0,.int .i64 2]) (by simp[results,Tryz.results8,go_sem,p0,p1,p2,p3,p4,p5,p6]) rfl ⟨rfl,pg HW2.out _ _ _ _ _ _ _⟩
theorem wC(w:World)(B:Nat):zr w B VK ji:=⟨⟨zn _,by decide,qD.nil⟩,⟨zn _,by decide,qD.nil⟩,⟨zn _,by decide,qD.nil⟩,⟨zn _,by decide,qD.nil⟩,⟨zn _,by decide,qD.nil⟩⟩
def q11(l:List Int)(w:World)(e:Ending)(w':World):Prop:=
 ∃h m er,e= .returned (.tuple #[zv h m,.int .i64 er])/\zr (qL (old w) w') w'.heap.size h m/\Below w.heap.size w w'/\rT l m er
set_option maxHeartbeats 6400000 in
theorem q52(l:List Int)(A:Option Addr)(cap B:Nat)(w:World)(hl:l.length<=1048576)(hc:l.length<=cap)(hcap:cap<=9223372036854775807)(hr:∀b ∈l,0<=b/\b<=255)(hA:A=none->cap=0)(hB:B<=w.heap.size)(h:zw w B A (l.map (Value.int .u8))):
  Calls Tryz.prog 27 #[.slice A l.length cap] w (q11 l w):=by
 have hs1:(w.alloc jV).heap.size=w.heap.size+1:=by simp
 have kc:=Ky (w.alloc jV) (w.heap.size+1) (by simp);have hW1:Below w.heap.size w (w.alloc jV):=zk;have hW2:Below (w.alloc jV).heap.size (w.alloc jV) ((w.alloc jV).alloc Jp):=zk;have HW:=zH (hW1.trans (hW2.mono hW1.size));have kI:Hid (zw ((w.alloc jV).alloc Jp) ((w.alloc jV).alloc Jp).heap.size (some ⟨w.heap.size+1,0,none⟩) (jm.map (Value.int .u8))):=zH (by rw[<-hs1];exact RL (zb _ _));have Zh:Hid (((w.alloc jV).alloc Jp).heap[w.heap.size]? =some (.cells Fs.toArray 29 (0,0))):=zH ((hW2.block _ (by omega)).trans (Xz _ _));have HL:=zH ((h.below_to HW.out hB).more (Xe hB HW.out.size));have HA:=zH hA;have HR:=zH hr;have HZ:Hid (w.heap.size<((w.alloc jV).alloc Jp).heap.size):=zH (by simp;omega);clear hs1 hW1 hW2 h hA hr hB;by_cases hp:l.take 4=jm
 ·have HP:=zH hp;clear hp;by_cases ho:8192<l.length
  ·have E:=zH (q5h ho);go_enter Tryz.func27,Tryz.ntmps27;go_upto_region 1 with fail
   go_wp2_with(go_at_call 44;(with_reducible refine(WP l A cap _ (w.heap.size+1) _ hc hcap HR.out (zn _) HL.out kI.out HP.out).mono ?_);rintro e w' ⟨A',cap',rfl,hl2,ha2,rfl⟩;have p0:=zR Zh.out 0 _ rfl;have p1:=zR Zh.out 1 _ rfl;have p2:=zR Zh.out 2 _ rfl;have p3:=zR Zh.out 3 _ rfl;have p4:=zR Zh.out 4 _ rfl;have p5:=zR Zh.out 5 _ rfl;have p6:=zR Zh.out 6 _ rfl;have g0:=zU Zh.out 0;have g1:=zU Zh.out 1;have g2:=zU Zh.out 2;have g3:=zU Zh.out 3;have g4:=zU Zh.out 4;have g5:=zU Zh.out 5;have g6:=zU Zh.out 6;clear hl2 ha2)
   refine Xk (v:= .tuple #[zv VK ji,.int .i64 2]) (by simp[results,Tryz.results27,go_sem,p0,p1,p2,p3,p4,p5,p6,ji]) rfl ⟨VK,ji,2,rfl,wC _ _,HW.out,E.out⟩
  ·obtain⟨D,hD⟩:=zj (l.drop 4);have GU:=zH hD;have HDl:D.length<=1048576:=by rw[<-hD];simp;omega
   have jZ:Hid (Bts D):=zH ⟨HDl,fun b hb=>HR.out b (by rw[<-hD]at hb;exact List.mem_of_mem_drop hb)⟩;have M4:Hid (∀b ∈D,0<=b/\b<=255):=zH jZ.out.2;have hl8:Hid (l.length<=8192):=zH (by omega);clear hD;go_enter Tryz.func27,Tryz.ntmps27;go_upto_region 1 with fail
   go_upto_region 6 with(first
    |(go_at_call 44;(with_reducible refine(WP l A cap _ (w.heap.size+1) _ hc hcap HR.out (zn _) HL.out kI.out HP.out).mono ?_);rintro e w' ⟨A',cap',he,hl2,ha2,rfl⟩;rw[GU.out]at he hl2;subst he;have HL2:=zH hl2;have HA2:=zH ha2;clear hl2 ha2)
    |(go_at_call 45;(with_reducible refine(qia D A' cap' _ _ HDl M4.out HA2.out (zn _) HL2.out).mono ?_);rintro e w2 ⟨N,rfl,hN,hrd,hb⟩;have Gp:=zH hrd;have HW2:=zi HW hb;have HJ2:=zH ((hb.block _ HZ.out).trans Zh.out);have HN:=zH (Xp HZ.out hN);clear hrd hb hN)
    |(go_at_call 46;(with_reducible refine(qhi N D false _ jZ.out Gp.out).mono ?_);rintro e w3 ⟨m,hh,r',b',rfl,hi,hrd,hg,hrel⟩;have HI3:=zH hi;have ql8:=zH hrd;have dU:=zH hg;have QH:=zH hrel;clear hi hrd hg hrel))
   have hz2:w.heap.size<w2.heap.size:=lt_of_block HJ2.out;have hb3:Below w.heap.size w w3:=HW2.out.trans (Q0 dU.out (Xg HN.out) Gp.out.lt);have hJ3:=wh HJ2.out dU.out (Nat.ne_of_lt HN.out);have xG:Below w3.heap.size w3 (w3.alloc (ze hh m)):=zk;have kj:=zH (hb3.trans (xG.mono hb3.size));have om:=zH ((xG.block _ (lt_of_block hJ3)).trans hJ3);have Oc:=zH (ql8.out.keep xG);have HI4:=zH (pW (S':=old w2) (w':=w3.alloc (ze hh m)) HI3.out xG.size fun b hb hs=>⟨hs,xG.block b hb⟩);have Cx:=zH (qd w3 hh m);have HZ3:Hid (w3.heap.size<(w3.alloc (ze hh m)).heap.size):=zH (by simp);clear hb3 hJ3 xG;generalize w3.alloc (ze hh m)=w4 at*
   obtain⟨e1,he1⟩:=zj ((!b'&& r'.isEmpty));have aW:=zH he1;obtain⟨e2,he2⟩:=zj (zV m);have HE2:=zH he2;clear he1 he2;have iN:Hid (zS ib iF (l.drop 4) false m r' b'):=zH (by rw[GU.out];exact QH.out);obtain⟨q0,q1,q2,q3,q4,q5,q6⟩:=Cx.out;cases e1
   ·have E:=zH (Sn (b:=b') iN.out (fun x=>by have h:=aW.out;rw[x.1,x.2.1]at h;simp at h));go_wp2_with(go_at_call 47;(with_reducible refine(LF Oc aW).mono ?_);rintro e w5 ⟨rfl,hb⟩;have qM:=zi kj hb;have JJ:=(hb.block _ (lt_of_block om.out)).trans om.out;have p0:=zR JJ 0 _ rfl;have g0:=zU JJ 0;have p1:=zR JJ 1 _ rfl;have g1:=zU JJ 1;have p2:=zR JJ 2 _ rfl;have g2:=zU JJ 2;have p3:=zR JJ 3 _ rfl;have g3:=zU JJ 3;have p4:=zR JJ 4 _ rfl;have g4:=zU JJ 4;have p5:=zR JJ 5 _ rfl;have g5:=zU JJ 5;have p6:=zR JJ 6 _ rfl;have g6:=zU JJ 6;clear hb JJ)
    refine Xk (v:= .tuple #[zv VK ji,.int .i64 2]) (by simp[results,Tryz.results27,go_sem,p0,p1,p2,p3,p4,p5,p6,ji]) rfl ⟨VK,ji,2,rfl,wC _ _,pg qM.out _ _ _ _ _ _ _,E.out⟩
   ·cases e2
    ·have E:=zH (Sn (b:=b') iN.out (fun x=>by have h:=HE2.out;rw[x.2.2]at h;cases h));go_wp2_with(first
      |(go_at_call 47;(with_reducible refine(LF Oc aW).mono ?_);rintro e w5 ⟨rfl,hb⟩;have qM:=zi kj hb;have C8:=zH ((hb.block _ (lt_of_block om.out)).trans om.out);have aV:=zH ((Dt HI4.out).now hb);obtain⟨q0,q1,q2,q3,q4,q5,q6⟩:=Cx.out.keep hb HZ3.out;clear hb)
      |(go_at_call 48;(with_reducible refine(Ub aV HE2).mono ?_);rintro e w6 ⟨rfl,hb⟩;have dW:=zi qM hb;have JJ:=(hb.block _ (lt_of_block C8.out)).trans C8.out;have p0:=zR JJ 0 _ rfl;have g0:=zU JJ 0;have p1:=zR JJ 1 _ rfl;have g1:=zU JJ 1;have p2:=zR JJ 2 _ rfl;have g2:=zU JJ 2;have p3:=zR JJ 3 _ rfl;have g3:=zU JJ 3;have p4:=zR JJ 4 _ rfl;have g4:=zU JJ 4;have p5:=zR JJ 5 _ rfl;have g5:=zU JJ 5;have p6:=zR JJ 6 _ rfl;have g6:=zU JJ 6;clear hb JJ))
     refine Xk (v:= .tuple #[zv VK ji,.int .i64 2]) (by simp[results,Tryz.results27,go_sem,p0,p1,p2,p3,p4,p5,p6,ji]) rfl ⟨VK,ji,2,rfl,wC _ _,pg dW.out _ _ _ _ _ _ _,E.out⟩
    ·have hb':b'=false/\r'=[]:=by have h:=aW.out;cases b'<;>cases r'<;>simp at h⊢
     obtain⟨rfl,rfl⟩:=hb';have E:=zH (qe6 (b:=false) hl8.out iN.out HP.out HE2.out);go_wp2_with(first
      |(go_at_call 47;(with_reducible refine(LF Oc aW).mono ?_);rintro e w5 ⟨rfl,hb⟩;have qM:=zi kj hb;have C8:=zH ((hb.block _ (lt_of_block om.out)).trans om.out);have q2h:=zH (pW (S':=old w2) HI4.out hb.size fun b hb' hs=>⟨hs,hb.block b hb'⟩);have aV:=zH (Dt q2h.out);have yx:=zH (Cx.out.keep hb HZ3.out);have oz:=zH (Xp HZ3.out hb.size);obtain⟨q0,q1,q2,q3,q4,q5,q6⟩:=yx.out;clear hb)
      |(go_at_call 48;(with_reducible refine(Ub aV HE2).mono ?_);rintro e w6 ⟨rfl,hb⟩;have dW:=zi qM hb;have JJ:=(hb.block _ (lt_of_block C8.out)).trans C8.out;have qku:=zH (pW (S':=old w2) q2h.out hb.size fun b hb' hs=>⟨hs,hb.block b hb'⟩);obtain⟨q0,q1,q2,q3,q4,q5,q6⟩:=yx.out.keep hb oz.out;have p0:=zR JJ 0 _ rfl;have g0:=zU JJ 0;have p1:=zR JJ 1 _ rfl;have g1:=zU JJ 1;have p2:=zR JJ 2 _ rfl;have g2:=zU JJ 2;have p3:=zR JJ 3 _ rfl;have g3:=zU JJ 3;have p4:=zR JJ 4 _ rfl;have g4:=zU JJ 4;have p5:=zR JJ 5 _ rfl;have g5:=zU JJ 5;have p6:=zR JJ 6 _ rfl;have g6:=zU JJ 6;clear hb JJ))
     refine Xk (v:= .tuple #[zv hh m,.int .i64 0]) (by simp[results,Tryz.results27,go_sem,p0,p1,p2,p3,p4,p5,p6]) rfl ⟨hh,m,0,rfl,?_,pg dW.out _ _ _ _ _ _ _,E.out⟩;exact pW (S':=old w) qku.out (by simp) fun b hb hs=>⟨Yv.mpr (Xe (Xg hz2) (Yv.mp hs)),K3 (by have:=Yv.mp hs;omega) _ _ _ _ _ _ _⟩
 ·have E:=zH (q5i hp);have HP:=zH hp;clear hp;go_enter Tryz.func27,Tryz.ntmps27;go_upto_region 1 with fail
  go_wp2_with(go_at_call 44;(with_reducible refine(q0c l A cap _ (w.heap.size+1) _ hc hcap HR.out HL.out kI.out HP.out).mono ?_);rintro e w' ⟨rfl,rfl⟩;have JJ:=Zh.out;have p0:=zR JJ 0 _ rfl;have g0:=zU JJ 0;have p1:=zR JJ 1 _ rfl;have g1:=zU JJ 1;have p2:=zR JJ 2 _ rfl;have g2:=zU JJ 2;have p3:=zR JJ 3 _ rfl;have g3:=zU JJ 3;have p4:=zR JJ 4 _ rfl;have g4:=zU JJ 4;have p5:=zR JJ 5 _ rfl;have g5:=zU JJ 5;have p6:=zR JJ 6 _ rfl;have g6:=zU JJ 6;clear JJ)
  refine Xk (v:= .tuple #[zv VK ji,.int .i64 2]) (by simp[results,Tryz.results27,go_sem,p0,p1,p2,p3,p4,p5,p6,ji]) rfl ⟨VK,ji,2,rfl,wC _ _,HW.out,E.out⟩
