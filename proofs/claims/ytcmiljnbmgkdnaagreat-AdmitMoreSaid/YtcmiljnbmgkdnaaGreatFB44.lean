import Derived.Test.YtcmiljnbmgkdnaaGreatFB42
import Derived.Test.YtcmiljnbmgkdnaaGreatFB19
namespace Go.Proofs.YtcmiljnbmgkdnaaGreat
set_option maxRecDepth 100000
set_option linter.unusedVariables false
set_option linter.unusedSimpArgs false
open Go.ChangeShapes Go.WideShapes Go.ChangeAt Go.RowKit
def Vs:zh:=⟨[],[],(5,0),[(33,0,0)],0,0,[0]⟩
def qT(s:Int):za:=⟨[],[],[],[Vs],[0],s,0⟩
def ZG:List (List zo):=[[⟨true,[]⟩]]
theorem qr4:qR (qT 3)=0:=q67 (by decide) (by simp[okB,qT,Vs,vw,Jd,Vc,Vm,zZ,kL,Ye,jn])
theorem q35:qR (qT 2)=0:=q67 (by decide) (by simp[okB,qT,Vs,vw,Jd,Vc,Vm,zZ,kL,Ye,jn])
theorem qr5(s:Int):Jy (qT s) ZG=true:=by rfl
theorem qr2{s:Int}{l:List (List zo)}(h:Zp (qT s) l):l=ZG:=by
 obtain⟨hl,hF⟩:=h;obtain⟨S,rfl⟩:∃S,l=[S]:=by
  match l,hl with
  | [S],_=>exact⟨S,rfl⟩
 have h1:=(hF 0 S rfl).2.right;unfold vv q3u at h1;simp only[Xr,Xt]at h1;obtain⟨⟨_,h2,h3,h4⟩,_⟩:=h1;have h2:S.length=1:=h2;obtain⟨⟨b,st⟩,rfl⟩:∃x,S=[x]:=by
  match S,h2 with
  | [x],_=>exact⟨x,rfl⟩
 have h3:b=true:=h3;have h4:st.length=0:=h4;rw[h3,List.length_eq_zero_iff.mp h4];rfl
theorem adm_e3:jd (qT 3) ZG=0:=by decide
theorem adm_e2:jd (qT 2) ZG=7:=by decide
theorem qfa{s er:Int}{n:Nat}{T:List (List zo)→Prop}(h0:qR (qT s)=0)(h:kB (qT s) er n T):er=jd (qT s) ZG∧(er=0→n=1∧T ZG):=by
 rcases h with⟨h1,_⟩|⟨_,_,_,h4⟩|⟨_,l,h2,h3,_,h5⟩
 ·exact absurd h0 h1
 ·have:=h4 ZG;rw[qr5]at this;cases this
 ·have e:=qr2 h2;subst e;exact⟨h3,h5⟩
def Qa(N:Nat):zi:=⟨none,none,none,some ⟨N+1+1,0,none⟩,some ⟨N+1+1+1,0,none⟩,0,0,0,1,1⟩
structure vx(w:World)(N:Nat)(s:Int):Prop where
 code:zW w N [.int .i64 33,.int .i64 0,.int .i64 0]
 phi:zW w (N+1) [.int .i64 0]
 mth:zW w (N+1+1) [.slice none 0 0,.slice none 0 0,.int .i64 5,.int .i64 0,.slice (some ⟨N,0,none⟩) 1 1,.int .i64 0,.int .i64 0,.slice (some ⟨N+1,0,none⟩) 1 1]
 ent:zW w (N+1+1+1) [.int .i64 0]
 box:zd w (N+1+1+1+1) [.slice none 0 0,.slice none 0 0,.slice none 0 0,.slice (some ⟨N+1+1,0,none⟩) 1 1,.slice (some ⟨N+1+1+1,0,none⟩) 1 1,.int .i64 s,.int .i64 0] 28
theorem vx.lt{w:World}{N:Nat}{s:Int}(h:vx w N s):N+1+1+1+1<w.heap.size:=h.box.lt
theorem vx.img{w:World}{N:Nat}{s:Int}(h:vx w N s):zW w (N+1+1+1+1) [.slice none 0 0,.slice none 0 0,.slice none 0 0,.slice (some ⟨N+1+1,0,none⟩) 1 1,.slice (some ⟨N+1+1+1,0,none⟩) 1 1,.int .i64 s,.int .i64 0]:=h.box.cells
theorem vx.keep{w w':World}{N:Nat}{s:Int}(h:vx w N s)(hb:Below w.heap.size w w'):vx w' N s:=by
 have hl:=h.lt;exact⟨h.code.keep hb (by omega),h.phi.keep hb (by omega),h.mth.keep hb (by omega),h.ent.keep hb (by omega),h.box.keep hb hl⟩
theorem q32{w:World}{g g' i:Nat}{vs:List Value}{v:Value}(h:zW w g vs)(hg:g'≠g):zW (w.setCell ⟨g',i,none⟩ v) g vs:=fun j u hu=>
 (World.cell?_setCell_far _ _ _ _ (fun e=>hg e)).trans (h j u hu)
theorem vx.turn{w:World}{N:Nat}{s:Int}(h:vx w N s)(t:Int):vx (w.setCell ⟨N+1+1+1+1,5,none⟩ (.int .i64 t)) N t:=
 ⟨q32 h.code (by omega),q32 h.phi (by omega),q32 h.mth (by omega),q32 h.ent (by omega),h.box.set 5 _⟩
theorem vx.image{w:World}{N:Nat}{s:Int}(h:vx w N s):zm w w.heap.size (Qa N) (qT s)∧Zy w (N+1+1+1+1) (Qa N) (qT s):=by
 have hl:=h.lt;have hC:ze qi 3 w w.heap.size (some ⟨N,0,none⟩) 1 Vs.code:=⟨zn _,by show 1≤9223372036854775807;decide,fun i t hi=>by
  match i,hi with
  |0,hi=>cases hi;exact⟨_,rfl,(by show N<_;omega),h.code 0 _ rfl,h.code 1 _ rfl,h.code 2 _ rfl⟩
  |i+1,hi=>cases hi⟩
 have hP:ze zl 1 w w.heap.size (some ⟨N+1,0,none⟩) 1 [0]:=⟨zn _,by show 1≤9223372036854775807;decide,fun i t hi=>by
  match i,hi with
  |0,hi=>cases hi;exact⟨_,rfl,(by show N+1<_;omega),h.phi 0 _ rfl⟩
  |i+1,hi=>cases hi⟩
 have hE:ze zl 1 w w.heap.size (some ⟨N+1+1+1,0,none⟩) 1 [0]:=⟨zn _,by show 1≤9223372036854775807;decide,fun i t hi=>by
  match i,hi with
  |0,hi=>cases hi;exact⟨_,rfl,(by show N+1+1+1<_;omega),h.ent 0 _ rfl⟩
  |i+1,hi=>cases hi⟩
 have c4:=h.mth;have hM:ze qC 8 w w.heap.size (some ⟨N+1+1,0,none⟩) 1 [Vs]:=⟨zn _,by show 1≤9223372036854775807;decide,fun i t hi=>by
  match i,hi with
  |0,hi=>cases hi;exact⟨_,rfl,(by show N+1+1<_;omega),⟨none,0,c4 0 _ rfl,kv⟩,⟨none,0,c4 1 _ rfl,kv⟩,c4 2 _ rfl,c4 3 _ rfl,⟨_,1,c4 4 _ rfl,hC⟩,c4 5 _ rfl,c4 6 _ rfl,⟨_,1,c4 7 _ rfl,hP⟩⟩
  |i+1,hi=>cases hi⟩
 exact⟨⟨kv,kv,kv,hM,hE⟩,⟨h.img 0 _ rfl,h.img 1 _ rfl,h.img 2 _ rfl,h.img 3 _ rfl,h.img 4 _ rfl,h.img 5 _ rfl,h.img 6 _ rfl⟩⟩
def admW(w:World):World:=((((w.alloc (.cells #[.int .i64 33,.int .i64 0,.int .i64 0] 55)).alloc (.cells #[.int .i64 0] 3)).alloc (.cells #[.slice none 0 0,.slice none 0 0,.int .i64 5,.int .i64 0,.slice (some ⟨w.heap.size,0,none⟩) 1 1,.int .i64 0,.int .i64 0,.slice (some ⟨w.heap.size+1,0,none⟩) 1 1] 53)).alloc (.cells #[.int .i64 0] 3)).alloc
 (.cells #[.slice none 0 0,.slice none 0 0,.slice none 0 0,.slice (some ⟨w.heap.size+1+1,0,none⟩) 1 1,.slice (some ⟨w.heap.size+1+1+1,0,none⟩) 1 1,.int .i64 3,.int .i64 0] 28)
theorem qr6(w:World):Below w.heap.size w (admW w)∧vx (admW w) w.heap.size 3:=by
 obtain⟨c0,z0,b0⟩:=Qs (w:=w) rfl [.int .i64 33,.int .i64 0,.int .i64 0] 55;obtain⟨c1,z1,b1⟩:=Qs z0 [.int .i64 0] 3;obtain⟨c2,z2,b2⟩:=Qs z1 [.slice none 0 0,.slice none 0 0,.int .i64 5,.int .i64 0,.slice (some ⟨w.heap.size,0,none⟩) 1 1,.int .i64 0,.int .i64 0,.slice (some ⟨w.heap.size+1,0,none⟩) 1 1] 53;obtain⟨c3,z3,b3⟩:=Qs z2 [.int .i64 0] 3;have hw:=zd.at_ z3 [.slice none 0 0,.slice none 0 0,.slice none 0 0,.slice (some ⟨w.heap.size+1+1,0,none⟩) 1 1,.slice (some ⟨w.heap.size+1+1+1,0,none⟩) 1 1,.int .i64 3,.int .i64 0] 28;obtain⟨c4,z4,b4⟩:=Qs z3 [.slice none 0 0,.slice none 0 0,.slice none 0 0,.slice (some ⟨w.heap.size+1+1,0,none⟩) 1 1,.slice (some ⟨w.heap.size+1+1+1,0,none⟩) 1 1,.int .i64 3,.int .i64 0] 28;have b3':=b3.trans (b4.mono (by omega));have b2':=b2.trans (b3'.mono (by omega));have b1':=b1.trans (b2'.mono (by omega));exact⟨b0.trans (b1'.mono (by omega)),c0.keep b1' (by omega),c1.keep b2' (by omega),c2.keep b3' (by omega),c3.keep b4 (by omega),hw⟩
section
variable{w:World}{N:Nat}{s:Int}
theorem qu5(H:Hid (vx w N 3)):Calls Tryz.prog 10 #[zp (Qa N) (qT 3)] w fun e w'=>∃A c,e= .returned (.tuple #[.slice A 1 c,.int .i64 0])∧Below w.heap.size w w'∧ZI (qT 3) w w' A c ZG:=
 (q2p (qT 3) (Qa N) w H.out.image.1).mono fun e w' ⟨A,n,c,er,h1,h2,h3⟩=>by
  obtain⟨h4,h5⟩:=qfa qr4 h3;rw[adm_e3]at h4;subst h4;obtain⟨rfl,h6⟩:=h5 rfl;exact⟨A,c,h1,h2,h6⟩
theorem qvm(H:Hid (vx w N 2)):Calls Tryz.prog 10 #[zp (Qa N) (qT 2)] w fun e w'=>∃A n c,e= .returned (.tuple #[.slice A n c,.int .i64 7])∧Below w.heap.size w w':=
 (q2p (qT 2) (Qa N) w H.out.image.1).mono fun e w' ⟨A,n,c,er,h1,h2,h3⟩=>by
  obtain⟨h4,_⟩:=qfa q35 h3;rw[adm_e2]at h4;subst h4;exact⟨A,n,c,h1,h2⟩
theorem qmf{A:Option Addr}{c:Nat}(H:Hid (vx w N 2))(HT:Hid (jy (qT 2) w A c ZG)):Calls Tryz.prog 12 #[zp (Qa N) (qT 2),.slice A 1 c] w fun e w'=>e= .returned (.tuple #[.int .i64 3,.int .i64 0,.int .i64 0])∧Below w.heap.size w w':=
 (qai (qT 2) ZG A c (Qa N) w H.out.image.1 (qb2 q35) HT.out).mono fun e w' ⟨s',p',er,h1,h2,_,h3⟩=>by
  obtain⟨e1,e2,e3⟩:=h3 (by decide);have e4:YL (qT 2) ZG=3:=by decide
  have e5:YX (qT 2)=0:=by decide
  rw[e4]at e2;rw[e5]at e3;subst e1 e2 e3;exact⟨h1,h2⟩
theorem qr0(H:Hid (vx w N 2)):Calls Tryz.prog 15 #[zp (Qa N) (qT 2)] w fun e w'=>e= .returned (.bool true)∧Below w.heap.size w w':=by
 have h:=qb4 (qT 2) (Qa N) w.heap.size w (zn _) H.out.image.1;rw[show zK (qT 2)=true by decide]at h;exact h
theorem qmg(H:Hid (vx w N 2)):Calls Tryz.prog 19 #[zp (Qa N) (qT 2)] w fun e w'=>∃A c,e= .returned (.slice A 1 c)∧Below w.heap.size w w':=
 (qjd (qT 2) (Qa N) w H.out.image.1 (by decide) (by decide) (fun x hx=>by have:=(((q1y q35)).method hx).fits.cl;omega)).mono fun e w' ⟨v,xs,h1,h2,h3⟩=>by
  rcases Zk h2 with⟨e1,hz⟩|⟨g,c,e1,_,_⟩
  ·cases hz
  ·exact⟨_,c,by rw[h1,e1];rfl,h3⟩
theorem qr1(H:Hid (vx w N 2)):Calls Tryz.prog 20 #[zp (Qa N) (qT 2),zF 33 0 0] w fun e w'=>e= .returned (.int .i64 0)∧Below w.heap.size w w':=
 qje (x:=Vs) (zH H.out.image.1) (zH (zb _ _)) (zH (q1y q35)) (zH (by simp[qT])) (zH (by simp[Vs])) (zH rfl)
end
theorem qr3{w:World}{A:Option Addr}{c:Nat}(h:jy (qT 3) w A c ZG):jy (qT 2) w A c ZG:=⟨h.1,h.2.1,h.2.2.1,fun i S hi=>qdi (s:=2) (h:=0) (h.2.2.2 i S hi)⟩
set_option maxHeartbeats 12800000 in
theorem qO(w:World):
  Calls Tryz.prog 9 #[] w fun e w'=>e= .returned (.bool true)∧Below w.heap.size w w':=by
 obtain⟨hb,hx⟩:=qr6 w;have HW:=zH hb;have HBX:=zH hx;clear hb hx;go_enter Tryz.func9,Tryz.ntmps9;go_upto_region 2 with fail
 change Code.wp _ _ _ _ (admW w);generalize admW w=w1 at*
 obtain⟨N,hN⟩:∃N,w.heap.size=N:=⟨_,rfl⟩
 have HNN:=zH hN;simp only[hN]at HBX⊢
 clear hN;obtain⟨q0,q1,q2,q3,q4,q5,q6⟩:=HBX.out.image.2;go_upto_region 3 with(go_at_call 10;(with_reducible refine(qu5 HBX).mono ?_);rintro e w2 ⟨A2,c2,rfl,hb,ht⟩;have HB2:=zH (HBX.out.keep hb);have HT2:=zH ht;have HL1:=zH HBX.out.lt;have HX2:=zH hb;clear hb ht)
 clear q0 q1 q2 q3 q4 q5 q6;have q5:=HB2.out.img 5 _ rfl;have f5:=HB2.out.box.free 5;have HB3:=zH (HB2.out.turn 2);have HT3:Hid (ZI (qT 3) w1 (w2.setCell ⟨N+1+1+1+1,5,none⟩ (.int .i64 2)) A2 c2 ZG):=zH (HT2.out.to (zn _) (by simp) fun b _ hb=>Below.heap_setCell _ _ _ _ (by have:=HL1.out;show b≠N+1+1+1+1;omega));have HW3:Hid (Below w.heap.size w (w2.setCell ⟨N+1+1+1+1,5,none⟩ (.int .i64 2))):=zH ((HW.out.trans (HX2.out.mono HW.out.size)).setCell (by rw[HNN.out];show N≤N+1+1+1+1;omega) _);go_upto_region 4 with fail
 clear q5 f5;generalize w2.setCell ⟨N+1+1+1+1,5,none⟩ (.int .i64 2)=w3 at*
 obtain⟨q0,q1,q2,q3,q4,q5,q6⟩:=HB3.out.image.2;go_upto_region 5 with(go_at_call 10;(with_reducible refine(qvm HB3).mono ?_);rintro e w4 ⟨A4,n4,c4,rfl,hb⟩;have HB4:=zH (HB3.out.keep hb);have HT4:=zH (qr3 (HT3.out.now hb).in_);have HW4:=zH (HW3.out.trans (hb.mono HW3.out.size));clear hb)
 clear q0 q1 q2 q3 q4 q5 q6;obtain⟨q0,q1,q2,q3,q4,q5,q6⟩:=HB4.out.image.2;go_upto_region 6 with(go_at_call 12;(with_reducible refine(qmf HB4 HT4).mono ?_);rintro e w5 ⟨rfl,hb⟩;have HB5:=zH (HB4.out.keep hb);have HW5:=zH (HW4.out.trans (hb.mono HW4.out.size));clear hb)
 clear q0 q1 q2 q3 q4 q5 q6;go_upto_region 7 with(go_at_call 17;(with_reducible refine(qmj _).mono ?_);rintro e w6 ⟨rfl,hb⟩;have hb2:=(zb w6.heap.size w6).alloc (zn _) je;have hb:=hb.trans (hb2.mono hb.size);have HB6:=zH (HB5.out.keep hb);have HW6:=zH (HW5.out.trans (hb.mono HW5.out.size));clear hb hb2)
 generalize w6.alloc je=w6 at*
 have HKS:Hid (∀W,Below w6.heap.size w6 W→(fun w':World=>w'.cell? ⟨N+1+1+1+1,0,none⟩=some (.slice none 0 0)∧w'.cell? ⟨N+1+1+1+1,1,none⟩=some (.slice none 0 0)∧w'.cell? ⟨N+1+1+1+1,2,none⟩=some (.slice none 0 0)∧w'.cell? ⟨N+1+1+1+1,3,none⟩=some (.slice (some ⟨N+1+1,0,none⟩) 1 1)∧w'.cell? ⟨N+1+1+1+1,4,none⟩=some (.slice (some ⟨N+1+1+1,0,none⟩) 1 1)∧w'.cell? ⟨N+1+1+1+1,5,none⟩=some (.int .i64 2)∧w'.cell? ⟨N+1+1+1+1,6,none⟩=some (.int .i64 0)∧w'.cell? ⟨N+1+1,4,none⟩=some (.slice (some ⟨N,0,none⟩) 1 1)∧w'.cell? ⟨N,0,none⟩=some (.int .i64 33)∧w'.cell? ⟨N,1,none⟩=some (.int .i64 0)∧w'.cell? ⟨N,2,none⟩=some (.int .i64 0)) W):=zH (fun W hW=>by
  have hg:=HB6.out.keep hW;exact⟨hg.img 0 _ rfl,hg.img 1 _ rfl,hg.img 2 _ rfl,hg.img 3 _ rfl,hg.img 4 _ rfl,hg.img 5 _ rfl,hg.img 6 _ rfl,hg.mth 4 _ rfl,hg.code 0 _ rfl,hg.code 1 _ rfl,hg.code 2 _ rfl⟩)
 have HXS:Hid (Below w6.heap.size w6 w6.drew):=zH (zb _ _).drew;have HBD:=zH (HB6.out.keep HXS.out);refine wp_region_noPanic ?_;refine wp_region_held_drew (S:=(fun w':World=>w'.cell? ⟨N+1+1+1+1,0,none⟩=some (.slice none 0 0)∧w'.cell? ⟨N+1+1+1+1,1,none⟩=some (.slice none 0 0)∧w'.cell? ⟨N+1+1+1+1,2,none⟩=some (.slice none 0 0)∧w'.cell? ⟨N+1+1+1+1,3,none⟩=some (.slice (some ⟨N+1+1,0,none⟩) 1 1)∧w'.cell? ⟨N+1+1+1+1,4,none⟩=some (.slice (some ⟨N+1+1+1,0,none⟩) 1 1)∧w'.cell? ⟨N+1+1+1+1,5,none⟩=some (.int .i64 2)∧w'.cell? ⟨N+1+1+1+1,6,none⟩=some (.int .i64 0)∧w'.cell? ⟨N+1+1,4,none⟩=some (.slice (some ⟨N,0,none⟩) 1 1)∧w'.cell? ⟨N,0,none⟩=some (.int .i64 33)∧w'.cell? ⟨N,1,none⟩=some (.int .i64 0)∧w'.cell? ⟨N,2,none⟩=some (.int .i64 0))) (by kernel_rfl) (HKS.out _ HXS.out) (fun hHeld=> ?_);generalize w6.drew=wd at HXS HBD hHeld⊢
 try dsimp only[List.append]
 refine mT 0 (h:=mT 1 (h:=mT 2 (h:=mT 3 (h:=mT 4 (h:=mT 5 (h:=mT 6 (h:=mT 7 (h:= ?_))))))));refine mT 8 (h:=mT 9 (h:=mT 10 (h:=mT 11 (h:=mT 12 (h:=mT 13 (h:=mT 14 (h:=mT 15 (h:= ?_))))))));refine mT 16 (h:=mT 17 (h:=mT 18 (h:=mT 19 (h:=mT 20 (h:=mT 21 (h:=mT 22 (h:=mT 23 (h:= ?_))))))));refine mT 24 (h:=mT 25 (h:=mT 26 (h:=mT 27 (h:=mT 28 (h:= ?_)))));refine wpAnyH_ready (rs:=[29]) (by kernel_rfl) (by simp) ?_;refine AllReadyH.cons (o:=_) rfl (fun K hK=> ?_) AllReadyH.nil;go_simp;(go_at_call 15;(refine(qr0 HBD).mono ?_);rintro e w7 ⟨rfl,hb⟩;have hz:=HXS.out.size;replace HXS:=zH (HXS.out.trans (hb.mono hz));replace HBD:=zH (HBD.out.keep hb);clear hz hb)
 refine hK.out _ _ (HKS.out _ HXS.out) (fun hHeld=> ?_);clear hK K;try simp only[sA,sB,sC,Act.put,sD,sE,sF]
 refine mT 30 (h:=mT 31 (h:=mT 32 (h:= ?_)));refine wpAnyH_ready (rs:=[33]) (by kernel_rfl) (by simp) ?_;refine AllReadyH.cons (o:=_) rfl (fun K hK=> ?_) AllReadyH.nil;go_simp;(go_at_call 19;(refine(qmg HBD).mono ?_);rintro e w7 ⟨A8,c8,rfl,hb⟩;have hz:=HXS.out.size;replace HXS:=zH (HXS.out.trans (hb.mono hz));replace HBD:=zH (HBD.out.keep hb);clear hz hb)
 refine hK.out _ _ (HKS.out _ HXS.out) (fun hHeld=> ?_);clear hK K;try simp only[sA,sB,sC,Act.put,sD,sE,sF]
 refine mT 34 (h:=mT 35 (h:=mT 36 (h:=mT 37 (h:=mT 38 (h:=mT 39 (h:=mT 40 (h:=mT 41 (h:= ?_))))))));refine mT 42 (h:=mT 43 (h:=mT 44 (h:=mT 45 (h:= ?_))));refine wpAnyH_ready (rs:=[46]) (by kernel_rfl) (by simp) ?_;refine AllReadyH.cons (o:=_) rfl (fun K hK=> ?_) AllReadyH.nil;go_simp;(go_at_call 20;(refine(qr1 HBD).mono ?_);rintro e w7 ⟨rfl,hb⟩;have hz:=HXS.out.size;replace HXS:=zH (HXS.out.trans (hb.mono hz));replace HBD:=zH (HBD.out.keep hb);clear hz hb)
 refine hK.out _ _ (HKS.out _ HXS.out) (fun hHeld=> ?_);clear hK K;try simp only[sA,sB,sC,Act.put,sD,sE,sF]
 refine mT 47 (h:=mT 48 (h:=mT 49 (h:= ?_)));refine wpAnyH_done (by kernel_rfl) ?_ _;refine NoPanic.normal ?_;go_wp2_with fail
 go_ret;exact⟨by first|rfl|simp,HW6.out.trans (HXS.out.mono HW6.out.size)⟩
section
variable{m:za}{h:zi}{w0 w:World}
theorem Qw(HI:Hid (zm w0 w0.heap.size h m))(HX:Hid (Below w0.heap.size w0 w)):
  Calls Tryz.prog 10 #[zp h m] w fun e w'=>∃A n c er,e= .returned (.tuple #[.slice A n c,.int .i64 er])∧Below w.heap.size w w'∧kB m er n (jy m w' A c):=qmh m h w (HI.out.now HX.out)
end
theorem qge{l:List (List zo)}{A A':Option Addr}{c c' k k':Nat}{w:World}(HT:Hid (ze (zI jK 2) 1 w w.heap.size A c l))(HT':Hid (ze (zI jK 2) 1 w w.heap.size A' c' l))(HK:Hid (l.length=k))(HK':Hid (l.length=k')):
  Calls Tryz.prog 14 #[.slice A k c,.slice A' k' c'] w fun e w'=>e= .returned (.bool true)∧Below w.heap.size w w':=by
 obtain rfl:=HK.out;obtain rfl:=HK'.out;exact qft l A A' c c' w HT.out HT'.out
end Go.Proofs.YtcmiljnbmgkdnaaGreat
