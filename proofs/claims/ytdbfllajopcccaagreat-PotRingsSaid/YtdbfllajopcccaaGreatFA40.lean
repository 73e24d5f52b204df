import Derived.Test.YtdbfllajopcccaaGreatFA38
import Derived.Test.YtdbfllajopcccaaGreatFA37
namespace Go.Proofs.YtdbfllajopcccaaGreat
set_option maxRecDepth 100000
set_option linter.unusedVariables false
set_option linter.unusedSimpArgs false
open Go.ChangeShapes Go.WideShapes Go.ChangeAt Go.RowKit
def qT(N:Nat):zl:=⟨none,none,some ⟨N,0,none⟩,some ⟨N+1+1+1,0,none⟩,none,0,0,1,1,0⟩
structure Vz(w:World)(N:Nat):Prop where
 ints:zT w N [.int .i32 2]
 code:zT w (N+1) [.int .i64 1,.int .i64 0,.int .i64 0,.int .i64 23,.int .i64 9,.int .i64 0,.int .i64 5,.int .i64 0,.int .i64 0,.int .i64 33,.int .i64 0,.int .i64 0]
 phi:zT w (N+1+1) [.int .i64 0,.int .i64 0,.int .i64 0,.int .i64 0]
 mth:zT w (N+1+1+1) [.slice none 0 0,.slice none 0 0,.int .i64 5,.int .i64 0,.slice (some ⟨N+1,0,none⟩) 4 4,.int .i64 0,.int .i64 0,.slice (some ⟨N+1+1,0,none⟩) 4 4]
 img:zT w (N+1+1+1+1) [.slice none 0 0,.slice none 0 0,.slice (some ⟨N,0,none⟩) 1 1,.slice (some ⟨N+1+1+1,0,none⟩) 1 1,.slice none 0 0,.int .i64 0,.int .i64 0]
 lt:N+1+1+1+1<w.heap.size
theorem Vz.keep{w w':World}{N:Nat}(h:Vz w N)(hb:Below w.heap.size w w'):Vz w' N:=by
 have hl:=h.lt;exact⟨h.ints.keep hb (by omega),h.code.keep hb (by omega),h.phi.keep hb (by omega),h.mth.keep hb (by omega),h.img.keep hb (by omega),Nat.lt_of_lt_of_le hl hb.size⟩
theorem Vz.image{w:World}{N:Nat}(h:Vz w N):zp w w.heap.size (qT N) zL∧Zl w (N+1+1+1+1) (qT N) zL:=by
 have hl:=h.lt;have c0:=h.code;have p0:=h.phi;have hadd:∀g i:Nat,(⟨g,0,none⟩:Addr).add i=⟨g,i,none⟩:=fun g i=>by unfold Addr.add;split<;>simp_all
 have hC:zd qw 3 w w.heap.size (some ⟨N+1,0,none⟩) 4 kf.code:=⟨zn _,by show 4≤9223372036854775807;decide,fun i t hi=>by
  match i,hi with
  |0,hi=>cases hi;exact⟨_,rfl,(by show N+1<_;omega),c0 0 _ rfl,c0 1 _ rfl,c0 2 _ rfl⟩
  |1,hi=>cases hi;exact⟨_,rfl,(by show N+1<_;omega),by rw[hadd];exact⟨c0 3 _ rfl,c0 4 _ rfl,c0 5 _ rfl⟩⟩
  |2,hi=>cases hi;exact⟨_,rfl,(by show N+1<_;omega),by rw[hadd];exact⟨c0 6 _ rfl,c0 7 _ rfl,c0 8 _ rfl⟩⟩
  |3,hi=>cases hi;exact⟨_,rfl,(by show N+1<_;omega),by rw[hadd];exact⟨c0 9 _ rfl,c0 10 _ rfl,c0 11 _ rfl⟩⟩
  |i+4,hi=>cases hi⟩
 have hP:zd zo 1 w w.heap.size (some ⟨N+1+1,0,none⟩) 4 [0,0,0,0]:=⟨zn _,by show 4≤9223372036854775807;decide,fun i t hi=>by
  match i,hi with
  |0,hi=>cases hi;exact⟨_,rfl,(by show N+1+1<_;omega),p0 0 _ rfl⟩
  |1,hi=>cases hi;exact⟨_,rfl,(by show N+1+1<_;omega),by rw[hadd];exact p0 1 _ rfl⟩
  |2,hi=>cases hi;exact⟨_,rfl,(by show N+1+1<_;omega),by rw[hadd];exact p0 2 _ rfl⟩
  |3,hi=>cases hi;exact⟨_,rfl,(by show N+1+1<_;omega),by rw[hadd];exact p0 3 _ rfl⟩
  |i+4,hi=>cases hi⟩
 have hI:zd jo 1 w w.heap.size (some ⟨N,0,none⟩) 1 [2]:=⟨zn _,by show 1≤9223372036854775807;decide,fun i t hi=>by
  match i,hi with
  |0,hi=>cases hi;exact⟨_,rfl,(by show N<_;omega),h.ints 0 _ rfl,by decide,by decide⟩
  |i+1,hi=>cases hi⟩
 have c4:=h.mth;have hM:zd jW 8 w w.heap.size (some ⟨N+1+1+1,0,none⟩) 1 [kf]:=⟨zn _,by show 1≤9223372036854775807;decide,fun i t hi=>by
  match i,hi with
  |0,hi=>cases hi;exact⟨_,rfl,(by show N+1+1+1<_;omega),⟨none,0,c4 0 _ rfl,ji⟩,⟨none,0,c4 1 _ rfl,ji⟩,c4 2 _ rfl,c4 3 _ rfl,⟨_,4,c4 4 _ rfl,hC⟩,c4 5 _ rfl,c4 6 _ rfl,⟨_,4,c4 7 _ rfl,hP⟩⟩
  |i+1,hi=>cases hi⟩
 exact⟨⟨ji,ji,hI,hM,ji⟩,⟨h.img 0 _ rfl,h.img 1 _ rfl,h.img 2 _ rfl,h.img 3 _ rfl,h.img 4 _ rfl,h.img 5 _ rfl,h.img 6 _ rfl⟩⟩
def potW(w:World):World:=((((w.alloc (.cells #[.int .i32 2] 21)).alloc (.cells #[.int .i64 1,.int .i64 0,.int .i64 0,.int .i64 23,.int .i64 9,.int .i64 0,.int .i64 5,.int .i64 0,.int .i64 0,.int .i64 33,.int .i64 0,.int .i64 0] 45)).alloc (.cells #[.int .i64 0,.int .i64 0,.int .i64 0,.int .i64 0] 3)).alloc (.cells #[.slice none 0 0,.slice none 0 0,.int .i64 5,.int .i64 0,.slice (some ⟨w.heap.size+1,0,none⟩) 4 4,.int .i64 0,.int .i64 0,.slice (some ⟨w.heap.size+1+1,0,none⟩) 4 4] 42)).alloc
 (.cells #[.slice none 0 0,.slice none 0 0,.slice (some ⟨w.heap.size,0,none⟩) 1 1,.slice (some ⟨w.heap.size+1+1+1,0,none⟩) 1 1,.slice none 0 0,.int .i64 0,.int .i64 0] 28)
theorem ql9(w:World):Below w.heap.size w (potW w)∧Vz (potW w) w.heap.size:=by
 obtain⟨c0,z0,b0⟩:=km (w:=w) rfl [.int .i32 2] 21;obtain⟨c1,z1,b1⟩:=km z0 [.int .i64 1,.int .i64 0,.int .i64 0,.int .i64 23,.int .i64 9,.int .i64 0,.int .i64 5,.int .i64 0,.int .i64 0,.int .i64 33,.int .i64 0,.int .i64 0] 45;obtain⟨c2,z2,b2⟩:=km z1 [.int .i64 0,.int .i64 0,.int .i64 0,.int .i64 0] 3;obtain⟨c3,z3,b3⟩:=km z2 [.slice none 0 0,.slice none 0 0,.int .i64 5,.int .i64 0,.slice (some ⟨w.heap.size+1,0,none⟩) 4 4,.int .i64 0,.int .i64 0,.slice (some ⟨w.heap.size+1+1,0,none⟩) 4 4] 42;obtain⟨c4,z4,b4⟩:=km z3 [.slice none 0 0,.slice none 0 0,.slice (some ⟨w.heap.size,0,none⟩) 1 1,.slice (some ⟨w.heap.size+1+1+1,0,none⟩) 1 1,.slice none 0 0,.int .i64 0,.int .i64 0] 28;have b3':=b3.trans (b4.mono (by omega));have b2':=b2.trans (b3'.mono (by omega));have b1':=b1.trans (b2'.mono (by omega));exact⟨b0.trans (b1'.mono (by omega)),c0.keep b1' (by omega),c1.keep b2' (by omega),c2.keep b3' (by omega),c3.keep b4 (by omega),c4,by have:(potW w).heap.size=w.heap.size+1+1+1+1+1:=z4;omega⟩
theorem qo4{N:Nat}{w0 w:World}(HI:Hid (zp w0 w0.heap.size (qT N) zL))(HX:Hid (Below w0.heap.size w0 w)):
  Calls Tryz.prog 23 #[zr (qT N) zL] w fun e w'=>∃(A:Option Addr) (c:Nat) (b:Int) (l:List (List zu)) (S:List zu),e= .returned (.tuple #[.slice A l.length c,.int .i64 b])∧Below w.heap.size w w'∧decide (b<0)=true∧qM zL w' A c l∧l[0]? =some S∧jF zL ((0:Nat):Int) S:=by
 have hm:=YB JA;refine(ql1 zL (qT N) w (HI.out.now HX.out) hm (by decide)).mono fun e w' ⟨A,n,c,b,he,hb,hyes,hno⟩=> ?_;have hb0:b<0:=by
  rcases Int.lt_or_le b 0 with q|q
  ·exact q
  ·exfalso;have:=hno q [[⟨true,[]⟩,⟨true,[(1,0)]⟩,⟨true,[(2,0)]⟩,⟨true,[]⟩]];rw[qh7]at this;cases this
 obtain⟨l,hn,hT⟩:=q9v hm (fun q=>by
  obtain⟨XS,h1,h2,h3,h4,h5,h6⟩:=hyes q;exact⟨XS,h1,h2,h3,h4,h5,fun i p hp=>(h6 i p hp).1⟩) hb0
 have hl1:l.length=1:=hT.2.2.1;obtain⟨S,hS⟩:∃S,l[0]? =some S:=⟨_,List.getElem?_eq_getElem (by omega)⟩
 have hn1:n=l.length:=by rw[hn,hl1];rfl
 subst hn1;exact⟨A,c,b,l,S,he,hb,decide_eq_true hb0,hT,hS,hT.2.2.2 0 S hS⟩
theorem ql4{N:Nat}{w0 w:World}(HI:Hid (zp w0 w0.heap.size (qT N) zL))(HX:Hid (Below w0.heap.size w0 w)):Calls Tryz.prog 24 #[zr (qT N) zL] w fun e w'=>e= .returned (.int .i64 0)∧Below w.heap.size w w':=by
 have H:=qa3 zL (qT N) w (HI.out.now HX.out);rw[JA]at H;exact H
theorem qo3{N:Nat}{l:List (List zu)}{S:List zu}{A:Option Addr}{c:Nat}{w0 w:World}(HI:Hid (zp w0 w0.heap.size (qT N) zL))(HX:Hid (Below w0.heap.size w0 w))(HT:Hid (qM zL w A c l))(HF:Hid (l[0]? =some S∧jF zL ((0:Nat):Int) S)):
  Calls Tryz.prog 10 #[zr (qT N) zL,.slice A l.length c] w fun e w'=>e= .returned (.tuple #[.int .i64 0,.int .i64 6])∧Below w.heap.size w w':=
 q90 (m:=zL) (x:=zL) (P:=0) (zH rfl) (zH (HI.out.now HX.out)) (zH (YB JA)) HT (zH (qo6 HF.out.2 HF.out.1)) (zH (Int.le_refl 0))
theorem ql7{N:Nat}{w0 w:World}(HI:Hid (zp w0 w0.heap.size (qT N) zL))(HX:Hid (Below w0.heap.size w0 w)):
  Calls Tryz.prog 12 #[zr (qT N) zL,zF 23 9 0] w fun e w'=>e= .returned (.int .i64 10)∧Below w.heap.size w w':=
 q4v zL kf 23 9 0 (qT N) w (HI.out.now HX.out) (YB JA) (by simp[zL]) (by simp[kf])
theorem qh4{N:Nat}{w0 w:World}(HI:Hid (zp w0 w0.heap.size (qT N) zL))(HX:Hid (Below w0.heap.size w0 w)):
  Calls Tryz.prog 13 #[zr (qT N) zL,zF 1 0 0] w fun e w'=>e= .returned (.int .i64 0)∧Below w.heap.size w w':=
 YU (x:=kf) HI HX (zH (YB JA)) (zH (by simp[zL])) (zH (by simp[kf])) (zH rfl)
theorem qh3{N:Nat}{l:List (List zu)}{S:List zu}{A:Option Addr}{c:Nat}{w0 w:World}(HI:Hid (zp w0 w0.heap.size (qT N) zL))(HX:Hid (Below w0.heap.size w0 w))(HT:Hid (qM zL w A c l))(HF:Hid (l[0]? =some S∧jF zL ((0:Nat):Int) S)):
  Calls Tryz.prog 14 #[zr (qT N) zL,.slice A l.length c,.int .i64 0] w fun e w'=>∃A' c',e= .returned (.slice A' 5 c')∧Below w.heap.size w w':=by
 have H:=q3y zL l 0 A c (qT N) w (HI.out.now HX.out) (YB JA) HT.out;rw[qh6 HF.out.2 HF.out.1]at H;exact H.mono fun e w' ⟨A',c',h1,_,h3⟩=>⟨A',c',h1,h3⟩
structure q0m(w:World)(l:List (List zu))(h:zl)(x:za)(ad ap:Addr)(k:Nat):Prop where
 img:zp w w.heap.size h x
 one:x.methods.length=1
 adr:h.A3=some ad
 pot:w.cell? (zc ad 6)=some (.int .i64 10)
 phi:w.cell? (zc ad 7)=some (.slice (some ap) 4 k)
 p0:w.cell? ap=some (.int .i64 10)
 p2:w.cell? (ap.add 2)=some (.int .i64 0)
 fill:ZV zL l x
 ab:ad.block<w.heap.size∧ap.block<w.heap.size
theorem q0m.keep{w w':World}{l:List (List zu)}{h:zl}{x:za}{ad ap:Addr}{k:Nat}(H:q0m w l h x ad ap k)(hb:Below w.heap.size w w'):q0m w' l h x ad ap k:=
 ⟨H.img.now hb,H.one,H.adr,(hb.cell (p:=zc ad 6) H.ab.1).trans H.pot,(hb.cell (p:=zc ad 7) H.ab.1).trans H.phi,(hb.cell H.ab.2).trans H.p0,(hb.cell (p:=ap.add 2) (by rw[zt];exact H.ab.2)).trans H.p2,H.fill,Nat.lt_of_lt_of_le H.ab.1 hb.size,Nat.lt_of_lt_of_le H.ab.2 hb.size⟩
theorem ql6{N:Nat}{l:List (List zu)}{S:List zu}{A:Option Addr}{c:Nat}{w0 w:World}(HI:Hid (zp w0 w0.heap.size (qT N) zL))(HX:Hid (Below w0.heap.size w0 w))(HT:Hid (qM zL w A c l))(HF:Hid (l[0]? =some S∧jF zL ((0:Nat):Int) S)):
  Calls Tryz.prog 18 #[zr (qT N) zL,.slice A l.length c] w fun e w'=>∃(h:zl) (x:za) (ad ap:Addr) (k:Nat),e= .returned (.tuple #[zr h x,.bool true])∧q0m w' l h x ad ap k∧Below w.heap.size w w':=by
 refine(qad zL l A c (qT N) w (HI.out.now HX.out) qh5 HT.out).mono fun e w' ⟨h,x,ok,he,hb,hi,hno,hyes⟩=> ?_;cases ok with
 |false=>exact absurd (hno rfl).2 (qh8 HF.out.2 HF.out.1)
 |true=>
  obtain⟨g,p1,p3,hg,hpot,hphi⟩:=qo5 HF.out.2 HF.out.1 (hyes rfl);have hl:x.methods.length=1:=by rw[hg];rfl
  obtain⟨ad,hx,eA,hab,hin,hcm⟩:=jB hi (show 0<x.methods.length by omega);have e0:x.methods[0]'(by omega)=g:=by simp[hg]
  rw[e0]at hin hcm;have ea:ad.add (0*8)=ad:=by rw[Nat.zero_mul];simp[Addr.add]
  rw[ea]at hcm;have hpl:g.phi.length=4:=by rw[hphi];rfl
  have c7:=hcm.c7;rw[hpl]at c7;obtain⟨ap,e7,hap,h0⟩:=hin.phi.row 0 10 (by rw[hphi];rfl);obtain⟨ap',e7',_,h2⟩:=hin.phi.row 2 0 (by rw[hphi];rfl);rw[e7]at e7' c7;cases e7';have h0:w'.cell? (ap.add (0*1))=some (.int .i64 10):=h0;rw[show ap.add (0*1)=ap by rw[Nat.zero_mul];simp[Addr.add]]at h0;have c6:=hcm.c6;rw[hpot]at c6;exact⟨h,x,ad,ap,hx.k7,he,⟨hi,hl,eA,c6,c7,h0,h2,hyes rfl,hab,hap⟩,hb⟩
theorem ql5{l:List (List zu)}{A:Option Addr}{c:Nat}{h:zl}{x:za}{ad ap:Addr}{k:Nat}{w:World}(HG:Hid (q0m w l h x ad ap k))(HT:Hid (qM zL w A c l)):
  Calls Tryz.prog 10 #[zr h x,.slice A l.length c] w fun e w'=>e= .returned (.tuple #[.int .i64 0,.int .i64 0])∧Below w.heap.size w w':=by
 have hf:=HG.out.fill;have H:=q3z x l A c h w HG.out.img (YP hf.alike (YB JA) hf.phi) (q3t HT.out hf.alike);rw[hf.holds]at H;exact H
set_option maxHeartbeats 12800000 in
theorem kh(w:World):
  Calls Tryz.prog 9 #[] w fun e w'=>e= .returned (.bool true)∧Below w.heap.size w w':=by
 obtain⟨hb,hx⟩:=ql9 w;have HW:=zH hb;have HBX:=zH hx;clear hb hx;go_enter Tryz.func9,Tryz.ntmps9;go_upto_region 2 with fail
 change Code.wp _ _ _ _ (potW w);generalize potW w=w1 at*
 obtain⟨N,hN⟩:∃N,w.heap.size=N:=⟨_,rfl⟩
 have HNN:=zH hN;simp only[hN]at HBX⊢
 clear hN;have HX:Hid (Below w1.heap.size w1 w1):=zH (zb _ _);have HI:=zH HBX.out.image.1;obtain⟨q0,q1,q2,q3,q4,q5,q6⟩:=HBX.out.image.2;go_upto_region 3 with(go_at_call 23;(with_reducible refine(qo4 HI HX).mono ?_);rintro e w2 ⟨A2,c2,bd,l,S,rfl,hb,hbd,ht,hs,hf⟩;have HX2:=zH hb;have HB2:=zH (HBX.out.keep hb);have HT2:=zH ht;have HF:=zH (⟨hs,hf⟩:l[0]? =some S∧jF zL ((0:Nat):Int) S);clear hb ht hs hf)
 clear q0 q1 q2 q3 q4 q5 q6;obtain⟨q0,q1,q2,q3,q4,q5,q6⟩:=HB2.out.image.2;go_upto_region 4 with(go_at_call 10;(with_reducible refine(qo3 HI HX2 HT2 HF).mono ?_);rintro e w3 ⟨rfl,hb⟩;have HX3:=zj HX2 hb;have HB3:=zH (HB2.out.keep hb);have HT3:=zH (kx HT2.out hb);clear hb)
 clear q0 q1 q2 q3 q4 q5 q6;obtain⟨q0,q1,q2,q3,q4,q5,q6⟩:=HB3.out.image.2;go_upto_region 5 with(go_at_call 18;(with_reducible refine(ql6 HI HX3 HT3 HF).mono ?_);rintro e w4 ⟨hx,x,ad,ap,k,rfl,hg,hb⟩;have HG4:=zH hg;have HX4:=zj HX3 hb;have HB4:=zH (HB3.out.keep hb);have HT4:=zH (kx HT3.out hb);clear hg hb)
 clear q0 q1 q2 q3 q4 q5 q6;have hA5:Below w4.heap.size w4 (w4.alloc (zq hx x)):=(zb _ _).alloc (zn _) _;have HBY:=zH (qf w4 hx x);have HZY:Hid (w4.heap.size<(w4.alloc (zq hx x)).heap.size):=zH (by simp);have HG5:=zH (HG4.out.keep hA5);have HX5:=zj HX4 hA5;have HB5:=zH (HB4.out.keep hA5);have HT5:=zH (kx HT4.out hA5);clear hA5;obtain⟨Nx,hNx⟩:∃z,w4.heap.size=z:=⟨_,rfl⟩
 simp only[hNx]at HBY HZY⊢
 generalize w4.alloc (zq hx x)=w5 at*
 obtain⟨x0,x1,x2,x3,x4,x5,x6⟩:=HBY.out;go_upto_region 6 with(go_at_call 10;(with_reducible refine(ql5 HG5 HT5).mono ?_);rintro e w6 ⟨rfl,hb⟩;have HG6:=zH (HG5.out.keep hb);have HX:=zj HX5 hb;have HBB:=zH (HB5.out.keep hb);have HT:=zH (kx HT5.out hb);have HBZ:=zH (HBY.out.keep hb HZY.out);have HSZ:=zH hb.size;clear hb)
 clear x0 x1 x2 x3 x4 x5 x6;have HNX:Hid (Nx<w6.heap.size):=zH (by have h1:=HZY.out;have h2:=HX5.out.size;have h3:=HX.out.size;have:w5.heap.size≤w6.heap.size:=HSZ.out;omega);have HKS:Hid (∀W,Below w6.heap.size w6 W→(fun w'=>(w'.cell? ⟨Nx,3,none⟩=some (.slice (some ad) 1 hx.c3)∧w'.cell? (zc ad 6)=some (.int .i64 10)∧w'.cell? (zc ad 7)=some (.slice (some ap) 4 k)∧w'.cell? ap=some (.int .i64 10)∧w'.cell? ⟨ap.block,ap.off+2,none⟩=some (.int .i64 0))∧(w'.cell? ⟨N+1+1+1+1,0,none⟩=some (.slice (qT N).A0 zL.classes.length (qT N).c0)∧w'.cell? ⟨N+1+1+1+1,1,none⟩=some (.slice (qT N).A1 zL.statics.length (qT N).c1)∧w'.cell? ⟨N+1+1+1+1,2,none⟩=some (.slice (qT N).A2 zL.ints.length (qT N).c2)∧w'.cell? ⟨N+1+1+1+1,3,none⟩=some (.slice (some ⟨N+1+1+1,0,none⟩) 1 1)∧w'.cell? ⟨N+1+1+1+1,4,none⟩=some (.slice (qT N).A4 zL.entries.length (qT N).c4)∧w'.cell? ⟨N+1+1+1+1,5,none⟩=some (.int .i64 zL.stack)∧w'.cell? ⟨N+1+1+1+1,6,none⟩=some (.int .i64 zL.heap))∧w'.cell? ⟨N+1+1+1,4,none⟩=some (.slice (some ⟨N+1,0,none⟩) 4 4)∧w'.cell? ⟨N+1,0,none⟩=some (.int .i64 1)∧w'.cell? ⟨N+1,1,none⟩=some (.int .i64 0)∧w'.cell? ⟨N+1,2,none⟩=some (.int .i64 0)∧w'.cell? ⟨N+1,3,none⟩=some (.int .i64 23)∧w'.cell? ⟨N+1,4,none⟩=some (.int .i64 9)∧w'.cell? ⟨N+1,5,none⟩=some (.int .i64 0)) W):=zH (fun W hW=>by
  have hg:=HG6.out.keep hW;have hbz:=HBZ.out.keep hW HNX.out;have x3:=hbz.2.2.2.1;rw[HG6.out.adr,HG6.out.one]at x3;have hbb:=HBB.out.keep hW;exact⟨⟨x3,hg.pot,hg.phi,hg.p0,hg.p2⟩,hbb.image.2,hbb.mth 4 _ rfl,hbb.code 0 _ rfl,hbb.code 1 _ rfl,hbb.code 2 _ rfl,hbb.code 3 _ rfl,hbb.code 4 _ rfl,hbb.code 5 _ rfl⟩)
 have HXS:Hid (Below w6.heap.size w6 w6.drew):=zH (zb _ _).drew;have HXD:=zH HX.out.drew;have HTD:=zH (kx HT.out HXS.out);clear HX HT;refine wp_region_noPanic ?_;refine wp_region_held_drew (S:=(fun w'=>(w'.cell? ⟨Nx,3,none⟩=some (.slice (some ad) 1 hx.c3)∧w'.cell? (zc ad 6)=some (.int .i64 10)∧w'.cell? (zc ad 7)=some (.slice (some ap) 4 k)∧w'.cell? ap=some (.int .i64 10)∧w'.cell? ⟨ap.block,ap.off+2,none⟩=some (.int .i64 0))∧(w'.cell? ⟨N+1+1+1+1,0,none⟩=some (.slice (qT N).A0 zL.classes.length (qT N).c0)∧w'.cell? ⟨N+1+1+1+1,1,none⟩=some (.slice (qT N).A1 zL.statics.length (qT N).c1)∧w'.cell? ⟨N+1+1+1+1,2,none⟩=some (.slice (qT N).A2 zL.ints.length (qT N).c2)∧w'.cell? ⟨N+1+1+1+1,3,none⟩=some (.slice (some ⟨N+1+1+1,0,none⟩) 1 1)∧w'.cell? ⟨N+1+1+1+1,4,none⟩=some (.slice (qT N).A4 zL.entries.length (qT N).c4)∧w'.cell? ⟨N+1+1+1+1,5,none⟩=some (.int .i64 zL.stack)∧w'.cell? ⟨N+1+1+1+1,6,none⟩=some (.int .i64 zL.heap))∧w'.cell? ⟨N+1+1+1,4,none⟩=some (.slice (some ⟨N+1,0,none⟩) 4 4)∧w'.cell? ⟨N+1,0,none⟩=some (.int .i64 1)∧w'.cell? ⟨N+1,1,none⟩=some (.int .i64 0)∧w'.cell? ⟨N+1,2,none⟩=some (.int .i64 0)∧w'.cell? ⟨N+1,3,none⟩=some (.int .i64 23)∧w'.cell? ⟨N+1,4,none⟩=some (.int .i64 9)∧w'.cell? ⟨N+1,5,none⟩=some (.int .i64 0))) (by kernel_rfl) (HKS.out _ HXS.out) (fun hHeld=> ?_);generalize w6.drew=wd at HXS HXD HTD hHeld⊢
 dsimp only[List.append];refine mT 0 (h:=mT 1 (h:=mT 2 (h:=mT 3 (h:=mT 4 (h:=mT 5 (h:=mT 6 (h:=mT 7 (h:= ?_))))))));refine mT 8 (h:=mT 9 (h:=mT 10 (h:=mT 11 (h:=mT 12 (h:=mT 13 (h:=mT 14 (h:=mT 15 (h:= ?_))))))));refine mT 16 (h:=mT 17 (h:=mT 18 (h:=mT 19 (h:=mT 20 (h:=mT 21 (h:=mT 22 (h:=mT 23 (h:= ?_))))))));refine mT 24 (h:=mT 25 (h:=mT 26 (h:=mT 27 (h:=mT 28 (h:=mT 29 (h:=mT 30 (h:=mT 31 (h:= ?_))))))));refine mT 32 (h:=mT 33 (h:=mT 34 (h:=mT 35 (h:=mT 36 (h:=mT 37 (h:=mT 38 (h:=mT 39 (h:= ?_))))))));refine mT 40 (h:=mT 41 (h:=mT 42 (h:=mT 43 (h:=mT 44 (h:=mT 45 (h:=mT 46 (h:=mT 47 (h:= ?_))))))));refine mT 48 (h:=mT 49 (h:= ?_));refine wpAnyH_ready (rs:=[50]) (by kernel_rfl) (by simp) ?_;refine AllReadyH.cons (o:=_) rfl (fun K hK=> ?_) AllReadyH.nil;go_simp;(go_at_call 12;(refine(ql7 HI HXD).mono ?_);rintro e w7 ⟨rfl,hb⟩;have hz:=HXS.out.size;replace HXD:=zj HXD hb;replace HTD:=zH (kx HTD.out hb);replace HXS:=zH (HXS.out.trans (hb.mono hz));clear hz hb)
 refine hK.out _ _ (HKS.out _ HXS.out) (fun hHeld=> ?_);clear hK K;try simp only[sA,sB,sC,Act.put,sD,sE,sF]
 refine mT 51 (h:=mT 52 (h:=mT 53 (h:=mT 54 (h:=mT 55 (h:= ?_)))));refine wpAnyH_ready (rs:=[56]) (by kernel_rfl) (by simp) ?_;refine AllReadyH.cons (o:=_) rfl (fun K hK=> ?_) AllReadyH.nil;go_simp;(go_at_call 14;(refine(qh3 HI HXD HTD HF).mono ?_);rintro e w7 ⟨A8,c8,rfl,hb⟩;have hz:=HXS.out.size;replace HXD:=zj HXD hb;replace HTD:=zH (kx HTD.out hb);replace HXS:=zH (HXS.out.trans (hb.mono hz));clear hz hb)
 refine hK.out _ _ (HKS.out _ HXS.out) (fun hHeld=> ?_);clear hK K;try simp only[sA,sB,sC,Act.put,sD,sE,sF]
 refine mT 57 (h:=mT 58 (h:=mT 59 (h:=mT 60 (h:=mT 61 (h:= ?_)))));refine wpAnyH_ready (rs:=[62]) (by kernel_rfl) (by simp) ?_;refine AllReadyH.cons (o:=_) rfl (fun K hK=> ?_) AllReadyH.nil;go_simp;(go_at_call 24;(refine(ql4 HI HXD).mono ?_);rintro e w7 ⟨rfl,hb⟩;have hz:=HXS.out.size;replace HXD:=zj HXD hb;replace HTD:=zH (kx HTD.out hb);replace HXS:=zH (HXS.out.trans (hb.mono hz));clear hz hb)
 refine hK.out _ _ (HKS.out _ HXS.out) (fun hHeld=> ?_);clear hK K;try simp only[sA,sB,sC,Act.put,sD,sE,sF]
 refine mT 63 (h:=mT 64 (h:=mT 65 (h:=mT 66 (h:=mT 67 (h:=mT 68 (h:=mT 69 (h:=mT 70 (h:= ?_))))))));refine mT 71 (h:=mT 72 (h:=mT 73 (h:= ?_)));refine wpAnyH_ready (rs:=[74]) (by kernel_rfl) (by simp) ?_;refine AllReadyH.cons (o:=_) rfl (fun K hK=> ?_) AllReadyH.nil;go_simp;(go_at_call 13;(refine(qh4 HI HXD).mono ?_);rintro e w7 ⟨rfl,hb⟩;have hz:=HXS.out.size;replace HXD:=zj HXD hb;replace HTD:=zH (kx HTD.out hb);replace HXS:=zH (HXS.out.trans (hb.mono hz));clear hz hb)
 refine hK.out _ _ (HKS.out _ HXS.out) (fun hHeld=> ?_);clear hK K;try simp only[sA,sB,sC,Act.put,sD,sE,sF]
 refine mT 75 (h:=mT 76 (h:=mT 77 (h:= ?_)));refine wpAnyH_done (by kernel_rfl) ?_ _;refine NoPanic.normal ?_;go_wp2_with fail
 go_ret;exact⟨by first|rfl|simp,HW.out.trans (HXD.out.mono HW.out.size)⟩
def qda(m:za)(l:List (List zu))(w:World)(e:Ending)(w':World):Prop:=∃(hx:zl) (x:za) (ok:Bool),e= .returned (.tuple #[zr hx x,.bool ok])∧Below w.heap.size w w'∧zp w' w'.heap.size hx x∧(ok=false→x.methods=[])∧(ok=true→ZV m l x)
theorem qlc(m:za)(l:List (List zu))(A:Option Addr)(c:Nat)(h:zl)(w:World)(H:zp w w.heap.size h m)(hs:vc m=true)(hT:qM m w A c l):
  Calls Tryz.prog 18 #[zr h m,.slice A l.length c] w (qda m l w):=
 (qad m l A c h w H hs hT).mono fun e w' ⟨hx,x,ok,he,hb,hi,hno,hyes⟩=>⟨hx,x,ok,he,hb,hi,fun q=>(hno q).1,hyes⟩
theorem q7t{m x:za}{w:World}{A:Option Addr}{c:Nat}{l:List (List zu)}(h:qM m w A c l)(hb:zC x=zC m):qM x w A c l:=
 ⟨h.1,h.2.1,by rw[Qz hb];exact h.2.2.1,fun i S hS=>q18 hb (h.2.2.2 i S hS)⟩
theorem VW{m:za}{h:zl}{w0 w:World}(HI:Hid (zp w0 w0.heap.size h m))(HX:Hid (Below w0.heap.size w0 w)):
  Calls Tryz.prog 8 #[zr h m] w (qck m (vc m) w):=qeq m h w (HI.out.now HX.out)
theorem qbs{m:za}{l:List (List zu)}{A:Option Addr}{c k:Nat}{h:zl}{w0 w:World}(HI:Hid (zp w0 w0.heap.size h m))(HX:Hid (Below w0.heap.size w0 w))(HS:Hid (vc m=true))(HT:Hid (qM m w A c l))(HK:Hid (l.length=k)):
  Calls Tryz.prog 18 #[zr h m,.slice A k c] w (qda m l w):=by
 obtain rfl:=HK.out;exact qlc m l A c h w (HI.out.now HX.out) HS.out HT.out
end Go.Proofs.YtdbfllajopcccaaGreat
