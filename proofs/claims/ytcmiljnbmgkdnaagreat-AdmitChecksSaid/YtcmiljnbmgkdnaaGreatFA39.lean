import Derived.Test.YtcmiljnbmgkdnaaGreatFA38
import Derived.Test.YtcmiljnbmgkdnaaGreatFA17
namespace Go.Proofs.YtcmiljnbmgkdnaaGreat
set_option maxRecDepth 100000
set_option linter.unusedVariables false
set_option linter.unusedSimpArgs false
open Go.ChangeShapes Go.WideShapes Go.ChangeAt Go.RowKit
def YY:zf:=⟨[],[],(5,0),[(33,0,0)],0,0,[0]⟩
def qT(s:Int):za:=⟨[],[],[],[YY],[0],s,0⟩
def ZD:List (List zm):=[[⟨true,[]⟩]]
theorem qpz:qK (qT 3)=0:=q2h (by decide) (by simp[okB,qT,YY,js,vV,qu,ZM,zC,vY,vw,qA])
theorem q2a:qK (qT 2)=0:=q2h (by decide) (by simp[okB,qT,YY,js,vV,qu,ZM,zC,vY,vw,qA])
theorem qq0(s:Int):Qz (qT s) ZD=true:=by rfl
theorem qpx{s:Int}{l:List (List zm)}(h:kY (qT s) l):l=ZD:=by
 obtain⟨hl,hF⟩:=h;obtain⟨S,rfl⟩:∃S,l=[S]:=by
  match l,hl with
  | [S],_=>exact⟨S,rfl⟩
 have h1:=(hF 0 S rfl).2.right;unfold jx q2v at h1;simp only[Xv,Xr]at h1;obtain⟨⟨_,h2,h3,h4⟩,_⟩:=h1;have h2:S.length=1:=h2;obtain⟨⟨b,st⟩,rfl⟩:∃x,S=[x]:=by
  match S,h2 with
  | [x],_=>exact⟨x,rfl⟩
 have h3:b=true:=h3;have h4:st.length=0:=h4;rw[h3,List.length_eq_zero_iff.mp h4];rfl
theorem adm_e3:qV (qT 3) ZD=0:=by decide
theorem adm_e2:qV (qT 2) ZD=7:=by decide
theorem qel{s er:Int}{n:Nat}{T:List (List zm)→Prop}(h0:qK (qT s)=0)(h:Qe (qT s) er n T):er=qV (qT s) ZD∧(er=0→n=1∧T ZD):=by
 rcases h with⟨h1,_⟩|⟨_,_,_,h4⟩|⟨_,l,h2,h3,_,h5⟩
 ·exact absurd h0 h1
 ·have:=h4 ZD;rw[qq0]at this;cases this
 ·have e:=qpx h2;subst e;exact⟨h3,h5⟩
def ZU(N:Nat):zg:=⟨none,none,none,some ⟨N+1+1,0,none⟩,some ⟨N+1+1+1,0,none⟩,0,0,0,1,1⟩
structure vT(w:World)(N:Nat)(s:Int):Prop where
 code:zW w N [.int .i64 33,.int .i64 0,.int .i64 0]
 phi:zW w (N+1) [.int .i64 0]
 mth:zW w (N+1+1) [.slice none 0 0,.slice none 0 0,.int .i64 5,.int .i64 0,.slice (some ⟨N,0,none⟩) 1 1,.int .i64 0,.int .i64 0,.slice (some ⟨N+1,0,none⟩) 1 1]
 ent:zW w (N+1+1+1) [.int .i64 0]
 box:ze w (N+1+1+1+1) [.slice none 0 0,.slice none 0 0,.slice none 0 0,.slice (some ⟨N+1+1,0,none⟩) 1 1,.slice (some ⟨N+1+1+1,0,none⟩) 1 1,.int .i64 s,.int .i64 0] 28
theorem vT.lt{w:World}{N:Nat}{s:Int}(h:vT w N s):N+1+1+1+1<w.heap.size:=h.box.lt
theorem vT.img{w:World}{N:Nat}{s:Int}(h:vT w N s):zW w (N+1+1+1+1) [.slice none 0 0,.slice none 0 0,.slice none 0 0,.slice (some ⟨N+1+1,0,none⟩) 1 1,.slice (some ⟨N+1+1+1,0,none⟩) 1 1,.int .i64 s,.int .i64 0]:=h.box.cells
theorem vT.keep{w w':World}{N:Nat}{s:Int}(h:vT w N s)(hb:Below w.heap.size w w'):vT w' N s:=by
 have hl:=h.lt;exact⟨h.code.keep hb (by omega),h.phi.keep hb (by omega),h.mth.keep hb (by omega),h.ent.keep hb (by omega),h.box.keep hb hl⟩
theorem q28{w:World}{g g' i:Nat}{vs:List Value}{v:Value}(h:zW w g vs)(hg:g'≠g):zW (w.setCell ⟨g',i,none⟩ v) g vs:=fun j u hu=>
 (World.cell?_setCell_far _ _ _ _ (fun e=>hg e)).trans (h j u hu)
theorem vT.turn{w:World}{N:Nat}{s:Int}(h:vT w N s)(t:Int):vT (w.setCell ⟨N+1+1+1+1,5,none⟩ (.int .i64 t)) N t:=
 ⟨q28 h.code (by omega),q28 h.phi (by omega),q28 h.mth (by omega),q28 h.ent (by omega),h.box.set 5 _⟩
theorem vT.image{w:World}{N:Nat}{s:Int}(h:vT w N s):zi w w.heap.size (ZU N) (qT s)∧Zs w (N+1+1+1+1) (ZU N) (qT s):=by
 have hl:=h.lt;have hC:zd jb 3 w w.heap.size (some ⟨N,0,none⟩) 1 YY.code:=⟨zn _,by show 1≤9223372036854775807;decide,fun i t hi=>by
  match i,hi with
  |0,hi=>cases hi;exact⟨_,rfl,(by show N<_;omega),h.code 0 _ rfl,h.code 1 _ rfl,h.code 2 _ rfl⟩
  |i+1,hi=>cases hi⟩
 have hP:zd zq 1 w w.heap.size (some ⟨N+1,0,none⟩) 1 [0]:=⟨zn _,by show 1≤9223372036854775807;decide,fun i t hi=>by
  match i,hi with
  |0,hi=>cases hi;exact⟨_,rfl,(by show N+1<_;omega),h.phi 0 _ rfl⟩
  |i+1,hi=>cases hi⟩
 have hE:zd zq 1 w w.heap.size (some ⟨N+1+1+1,0,none⟩) 1 [0]:=⟨zn _,by show 1≤9223372036854775807;decide,fun i t hi=>by
  match i,hi with
  |0,hi=>cases hi;exact⟨_,rfl,(by show N+1+1+1<_;omega),h.ent 0 _ rfl⟩
  |i+1,hi=>cases hi⟩
 have c4:=h.mth;have hM:zd vN 8 w w.heap.size (some ⟨N+1+1,0,none⟩) 1 [YY]:=⟨zn _,by show 1≤9223372036854775807;decide,fun i t hi=>by
  match i,hi with
  |0,hi=>cases hi;exact⟨_,rfl,(by show N+1+1<_;omega),⟨none,0,c4 0 _ rfl,ja⟩,⟨none,0,c4 1 _ rfl,ja⟩,c4 2 _ rfl,c4 3 _ rfl,⟨_,1,c4 4 _ rfl,hC⟩,c4 5 _ rfl,c4 6 _ rfl,⟨_,1,c4 7 _ rfl,hP⟩⟩
  |i+1,hi=>cases hi⟩
 exact⟨⟨ja,ja,ja,hM,hE⟩,⟨h.img 0 _ rfl,h.img 1 _ rfl,h.img 2 _ rfl,h.img 3 _ rfl,h.img 4 _ rfl,h.img 5 _ rfl,h.img 6 _ rfl⟩⟩
def admW(w:World):World:=((((w.alloc (.cells #[.int .i64 33,.int .i64 0,.int .i64 0] 55)).alloc (.cells #[.int .i64 0] 3)).alloc (.cells #[.slice none 0 0,.slice none 0 0,.int .i64 5,.int .i64 0,.slice (some ⟨w.heap.size,0,none⟩) 1 1,.int .i64 0,.int .i64 0,.slice (some ⟨w.heap.size+1,0,none⟩) 1 1] 53)).alloc (.cells #[.int .i64 0] 3)).alloc
 (.cells #[.slice none 0 0,.slice none 0 0,.slice none 0 0,.slice (some ⟨w.heap.size+1+1,0,none⟩) 1 1,.slice (some ⟨w.heap.size+1+1+1,0,none⟩) 1 1,.int .i64 3,.int .i64 0] 28)
theorem qq1(w:World):Below w.heap.size w (admW w)∧vT (admW w) w.heap.size 3:=by
 obtain⟨c0,z0,b0⟩:=kr (w:=w) rfl [.int .i64 33,.int .i64 0,.int .i64 0] 55;obtain⟨c1,z1,b1⟩:=kr z0 [.int .i64 0] 3;obtain⟨c2,z2,b2⟩:=kr z1 [.slice none 0 0,.slice none 0 0,.int .i64 5,.int .i64 0,.slice (some ⟨w.heap.size,0,none⟩) 1 1,.int .i64 0,.int .i64 0,.slice (some ⟨w.heap.size+1,0,none⟩) 1 1] 53;obtain⟨c3,z3,b3⟩:=kr z2 [.int .i64 0] 3;have hw:=ze.at_ z3 [.slice none 0 0,.slice none 0 0,.slice none 0 0,.slice (some ⟨w.heap.size+1+1,0,none⟩) 1 1,.slice (some ⟨w.heap.size+1+1+1,0,none⟩) 1 1,.int .i64 3,.int .i64 0] 28;obtain⟨c4,z4,b4⟩:=kr z3 [.slice none 0 0,.slice none 0 0,.slice none 0 0,.slice (some ⟨w.heap.size+1+1,0,none⟩) 1 1,.slice (some ⟨w.heap.size+1+1+1,0,none⟩) 1 1,.int .i64 3,.int .i64 0] 28;have b3':=b3.trans (b4.mono (by omega));have b2':=b2.trans (b3'.mono (by omega));have b1':=b1.trans (b2'.mono (by omega));exact⟨b0.trans (b1'.mono (by omega)),c0.keep b1' (by omega),c1.keep b2' (by omega),c2.keep b3' (by omega),c3.keep b4 (by omega),hw⟩
section
variable{w:World}{N:Nat}{s:Int}
theorem qsz(H:Hid (vT w N 3)):Calls Tryz.prog 10 #[zk (ZU N) (qT 3)] w fun e w'=>∃A c,e= .returned (.tuple #[.slice A 1 c,.int .i64 0])∧Below w.heap.size w w'∧ZE (qT 3) w w' A c ZD:=
 (q4f (qT 3) (ZU N) w H.out.image.1).mono fun e w' ⟨A,n,c,er,h1,h2,h3⟩=>by
  obtain⟨h4,h5⟩:=qel qpz h3;rw[adm_e3]at h4;subst h4;obtain⟨rfl,h6⟩:=h5 rfl;exact⟨A,c,h1,h2,h6⟩
theorem qv5(H:Hid (vT w N 2)):Calls Tryz.prog 10 #[zk (ZU N) (qT 2)] w fun e w'=>∃A n c,e= .returned (.tuple #[.slice A n c,.int .i64 7])∧Below w.heap.size w w':=
 (q4f (qT 2) (ZU N) w H.out.image.1).mono fun e w' ⟨A,n,c,er,h1,h2,h3⟩=>by
  obtain⟨h4,_⟩:=qel q2a h3;rw[adm_e2]at h4;subst h4;exact⟨A,n,c,h1,h2⟩
theorem qlf{A:Option Addr}{c:Nat}(H:Hid (vT w N 2))(HT:Hid (qU (qT 2) w A c ZD)):Calls Tryz.prog 12 #[zk (ZU N) (qT 2),.slice A 1 c] w fun e w'=>e= .returned (.tuple #[.int .i64 3,.int .i64 0,.int .i64 0])∧Below w.heap.size w w':=
 (q4e (qT 2) ZD A c (ZU N) w H.out.image.1 (q03 q2a) HT.out).mono fun e w' ⟨s',p',er,h1,h2,_,h3⟩=>by
  obtain⟨e1,e2,e3⟩:=h3 (by decide);have e4:Zj (qT 2) ZD=3:=by decide
  have e5:kW (qT 2)=0:=by decide
  rw[e4]at e2;rw[e5]at e3;subst e1 e2 e3;exact⟨h1,h2⟩
theorem qpv(H:Hid (vT w N 2)):Calls Tryz.prog 15 #[zk (ZU N) (qT 2)] w fun e w'=>e= .returned (.bool true)∧Below w.heap.size w w':=by
 have h:=q1y (qT 2) (ZU N) w.heap.size w (zn _) H.out.image.1;rw[show zT (qT 2)=true by decide]at h;exact h
theorem qlg(H:Hid (vT w N 2)):Calls Tryz.prog 19 #[zk (ZU N) (qT 2)] w fun e w'=>∃A c,e= .returned (.slice A 1 c)∧Below w.heap.size w w':=
 (qib (qT 2) (ZU N) w H.out.image.1 (by decide) (by decide) (fun x hx=>by have:=(((JE q2a)).method hx).fits.cl;omega)).mono fun e w' ⟨v,xs,h1,h2,h3⟩=>by
  rcases kq h2 with⟨e1,hz⟩|⟨g,c,e1,_,_⟩
  ·cases hz
  ·exact⟨_,c,by rw[h1,e1];rfl,h3⟩
theorem qpw(H:Hid (vT w N 2)):Calls Tryz.prog 20 #[zk (ZU N) (qT 2),zz 33 0 0] w fun e w'=>e= .returned (.int .i64 0)∧Below w.heap.size w w':=
 q3z (x:=YY) (zH H.out.image.1) (zH (zb _ _)) (zH (JE q2a)) (zH (by simp[qT])) (zH (by simp[YY])) (zH rfl)
end
theorem qpy{w:World}{A:Option Addr}{c:Nat}(h:qU (qT 3) w A c ZD):qU (qT 2) w A c ZD:=⟨h.1,h.2.1,h.2.2.1,fun i S hi=>qd2 (s:=2) (h:=0) (h.2.2.2 i S hi)⟩
set_option maxHeartbeats 12800000 in
theorem Ji(w:World):
  Calls Tryz.prog 9 #[] w fun e w'=>e= .returned (.bool true)∧Below w.heap.size w w':=by
 obtain⟨hb,hx⟩:=qq1 w;have HW:=zH hb;have HBX:=zH hx;clear hb hx;go_enter Tryz.func9,Tryz.ntmps9;go_upto_region 2 with fail
 change Code.wp _ _ _ _ (admW w);generalize admW w=w1 at*
 obtain⟨N,hN⟩:∃N,w.heap.size=N:=⟨_,rfl⟩
 have HNN:=zH hN;simp only[hN]at HBX⊢
 clear hN;obtain⟨q0,q1,q2,q3,q4,q5,q6⟩:=HBX.out.image.2;go_upto_region 3 with(go_at_call 10;(with_reducible refine(qsz HBX).mono ?_);rintro e w2 ⟨A2,c2,rfl,hb,ht⟩;have HB2:=zH (HBX.out.keep hb);have HT2:=zH ht;have HL1:=zH HBX.out.lt;have HX2:=zH hb;clear hb ht)
 clear q0 q1 q2 q3 q4 q5 q6;have q5:=HB2.out.img 5 _ rfl;have f5:=HB2.out.box.free 5;have HB3:=zH (HB2.out.turn 2);have HT3:Hid (ZE (qT 3) w1 (w2.setCell ⟨N+1+1+1+1,5,none⟩ (.int .i64 2)) A2 c2 ZD):=zH (HT2.out.to (zn _) (by simp) fun b _ hb=>Below.heap_setCell _ _ _ _ (by have:=HL1.out;show b≠N+1+1+1+1;omega));have HW3:Hid (Below w.heap.size w (w2.setCell ⟨N+1+1+1+1,5,none⟩ (.int .i64 2))):=zH ((HW.out.trans (HX2.out.mono HW.out.size)).setCell (by rw[HNN.out];show N≤N+1+1+1+1;omega) _);go_upto_region 4 with fail
 clear q5 f5;generalize w2.setCell ⟨N+1+1+1+1,5,none⟩ (.int .i64 2)=w3 at*
 obtain⟨q0,q1,q2,q3,q4,q5,q6⟩:=HB3.out.image.2;go_upto_region 5 with(go_at_call 10;(with_reducible refine(qv5 HB3).mono ?_);rintro e w4 ⟨A4,n4,c4,rfl,hb⟩;have HB4:=zH (HB3.out.keep hb);have HT4:=zH (qpy (HT3.out.now hb).in_);have HW4:=zH (HW3.out.trans (hb.mono HW3.out.size));clear hb)
 clear q0 q1 q2 q3 q4 q5 q6;obtain⟨q0,q1,q2,q3,q4,q5,q6⟩:=HB4.out.image.2;go_upto_region 6 with(go_at_call 12;(with_reducible refine(qlf HB4 HT4).mono ?_);rintro e w5 ⟨rfl,hb⟩;have HB5:=zH (HB4.out.keep hb);have HW5:=zH (HW4.out.trans (hb.mono HW4.out.size));clear hb)
 clear q0 q1 q2 q3 q4 q5 q6;go_upto_region 7 with(go_at_call 17;(with_reducible refine(qlj _).mono ?_);rintro e w6 ⟨rfl,hb⟩;have hb2:=(zb w6.heap.size w6).alloc (zn _) kP;have hb:=hb.trans (hb2.mono hb.size);have HB6:=zH (HB5.out.keep hb);have HW6:=zH (HW5.out.trans (hb.mono HW5.out.size));clear hb hb2)
 generalize w6.alloc kP=w6 at*
 have HKS:Hid (∀W,Below w6.heap.size w6 W→(fun w':World=>w'.cell? ⟨N+1+1+1+1,0,none⟩=some (.slice none 0 0)∧w'.cell? ⟨N+1+1+1+1,1,none⟩=some (.slice none 0 0)∧w'.cell? ⟨N+1+1+1+1,2,none⟩=some (.slice none 0 0)∧w'.cell? ⟨N+1+1+1+1,3,none⟩=some (.slice (some ⟨N+1+1,0,none⟩) 1 1)∧w'.cell? ⟨N+1+1+1+1,4,none⟩=some (.slice (some ⟨N+1+1+1,0,none⟩) 1 1)∧w'.cell? ⟨N+1+1+1+1,5,none⟩=some (.int .i64 2)∧w'.cell? ⟨N+1+1+1+1,6,none⟩=some (.int .i64 0)∧w'.cell? ⟨N+1+1,4,none⟩=some (.slice (some ⟨N,0,none⟩) 1 1)∧w'.cell? ⟨N,0,none⟩=some (.int .i64 33)∧w'.cell? ⟨N,1,none⟩=some (.int .i64 0)∧w'.cell? ⟨N,2,none⟩=some (.int .i64 0)) W):=zH (fun W hW=>by
  have hg:=HB6.out.keep hW;exact⟨hg.img 0 _ rfl,hg.img 1 _ rfl,hg.img 2 _ rfl,hg.img 3 _ rfl,hg.img 4 _ rfl,hg.img 5 _ rfl,hg.img 6 _ rfl,hg.mth 4 _ rfl,hg.code 0 _ rfl,hg.code 1 _ rfl,hg.code 2 _ rfl⟩)
 have HXS:Hid (Below w6.heap.size w6 w6.drew):=zH (zb _ _).drew;have HBD:=zH (HB6.out.keep HXS.out);refine wp_region_noPanic ?_;refine wp_region_held_drew (S:=(fun w':World=>w'.cell? ⟨N+1+1+1+1,0,none⟩=some (.slice none 0 0)∧w'.cell? ⟨N+1+1+1+1,1,none⟩=some (.slice none 0 0)∧w'.cell? ⟨N+1+1+1+1,2,none⟩=some (.slice none 0 0)∧w'.cell? ⟨N+1+1+1+1,3,none⟩=some (.slice (some ⟨N+1+1,0,none⟩) 1 1)∧w'.cell? ⟨N+1+1+1+1,4,none⟩=some (.slice (some ⟨N+1+1+1,0,none⟩) 1 1)∧w'.cell? ⟨N+1+1+1+1,5,none⟩=some (.int .i64 2)∧w'.cell? ⟨N+1+1+1+1,6,none⟩=some (.int .i64 0)∧w'.cell? ⟨N+1+1,4,none⟩=some (.slice (some ⟨N,0,none⟩) 1 1)∧w'.cell? ⟨N,0,none⟩=some (.int .i64 33)∧w'.cell? ⟨N,1,none⟩=some (.int .i64 0)∧w'.cell? ⟨N,2,none⟩=some (.int .i64 0))) (by kernel_rfl) (HKS.out _ HXS.out) (fun hHeld=> ?_);generalize w6.drew=wd at HXS HBD hHeld⊢
 try dsimp only[List.append]
 refine mT 0 (h:=mT 1 (h:=mT 2 (h:=mT 3 (h:=mT 4 (h:=mT 5 (h:=mT 6 (h:=mT 7 (h:= ?_))))))));refine mT 8 (h:=mT 9 (h:=mT 10 (h:=mT 11 (h:=mT 12 (h:=mT 13 (h:=mT 14 (h:=mT 15 (h:= ?_))))))));refine mT 16 (h:=mT 17 (h:=mT 18 (h:=mT 19 (h:=mT 20 (h:=mT 21 (h:=mT 22 (h:=mT 23 (h:= ?_))))))));refine mT 24 (h:=mT 25 (h:=mT 26 (h:=mT 27 (h:=mT 28 (h:= ?_)))));refine wpAnyH_ready (rs:=[29]) (by kernel_rfl) (by simp) ?_;refine AllReadyH.cons (o:=_) rfl (fun K hK=> ?_) AllReadyH.nil;go_simp;(go_at_call 15;(refine(qpv HBD).mono ?_);rintro e w7 ⟨rfl,hb⟩;have hz:=HXS.out.size;replace HXS:=zH (HXS.out.trans (hb.mono hz));replace HBD:=zH (HBD.out.keep hb);clear hz hb)
 refine hK.out _ _ (HKS.out _ HXS.out) (fun hHeld=> ?_);clear hK K;try simp only[sA,sB,sC,Act.put,sD,sE,sF]
 refine mT 30 (h:=mT 31 (h:=mT 32 (h:= ?_)));refine wpAnyH_ready (rs:=[33]) (by kernel_rfl) (by simp) ?_;refine AllReadyH.cons (o:=_) rfl (fun K hK=> ?_) AllReadyH.nil;go_simp;(go_at_call 19;(refine(qlg HBD).mono ?_);rintro e w7 ⟨A8,c8,rfl,hb⟩;have hz:=HXS.out.size;replace HXS:=zH (HXS.out.trans (hb.mono hz));replace HBD:=zH (HBD.out.keep hb);clear hz hb)
 refine hK.out _ _ (HKS.out _ HXS.out) (fun hHeld=> ?_);clear hK K;try simp only[sA,sB,sC,Act.put,sD,sE,sF]
 refine mT 34 (h:=mT 35 (h:=mT 36 (h:=mT 37 (h:=mT 38 (h:=mT 39 (h:=mT 40 (h:=mT 41 (h:= ?_))))))));refine mT 42 (h:=mT 43 (h:=mT 44 (h:=mT 45 (h:= ?_))));refine wpAnyH_ready (rs:=[46]) (by kernel_rfl) (by simp) ?_;refine AllReadyH.cons (o:=_) rfl (fun K hK=> ?_) AllReadyH.nil;go_simp;(go_at_call 20;(refine(qpw HBD).mono ?_);rintro e w7 ⟨rfl,hb⟩;have hz:=HXS.out.size;replace HXS:=zH (HXS.out.trans (hb.mono hz));replace HBD:=zH (HBD.out.keep hb);clear hz hb)
 refine hK.out _ _ (HKS.out _ HXS.out) (fun hHeld=> ?_);clear hK K;try simp only[sA,sB,sC,Act.put,sD,sE,sF]
 refine mT 47 (h:=mT 48 (h:=mT 49 (h:= ?_)));refine wpAnyH_done (by kernel_rfl) ?_ _;refine NoPanic.normal ?_;go_wp2_with fail
 go_ret;exact⟨by first|rfl|simp,HW6.out.trans (HXS.out.mono HW6.out.size)⟩
theorem qle(m:za)(l:List (List zm))(A:Option Addr)(c:Nat)(h:zg)(w:World)(H:zi w w.heap.size h m)(hs:vd m=true)(hT:qU m w A c l):
  Calls Tryz.prog 12 #[zk h m,.slice A l.length c] w (q59 m l w):=q4e m l A c h w H hs hT
section
variable{m:za}{h:zg}{w0 w:World}
theorem q09(HI:Hid (zi w0 w0.heap.size h m))(HX:Hid (Below w0.heap.size w0 w)):
  Calls Tryz.prog 10 #[zk h m] w fun e w'=>∃A n c er,e= .returned (.tuple #[.slice A n c,.int .i64 er])∧Below w.heap.size w w'∧Qe m er n (qU m w' A c):=qli m h w (HI.out.now HX.out)
theorem qar(HI:Hid (zi w0 w0.heap.size h m))(HX:Hid (Below w0.heap.size w0 w)):
  Calls Tryz.prog 11 #[zk h m] w fun e w'=>∃A n c er,e= .returned (.tuple #[.slice A n c,.int .i64 er])∧Below w.heap.size w w'∧Qe m er n (qU m w' A c):=qih m h w (HI.out.now HX.out)
theorem qld{l:List (List zm)}{A:Option Addr}{c k:Nat}{s p:Int}(HI:Hid (zi w0 w0.heap.size h m))(HX:Hid (Below w0.heap.size w0 w))(HS:Hid (vd m=true))(HT:Hid (qU m w A c l))(HK:Hid (l.length=k))(HR:Hid (jr m=true))(HSN:Hid (Zj m l=s))(HPN:Hid (kW m=p)):
  Calls Tryz.prog 12 #[zk h m,.slice A k c] w fun e w'=>e= .returned (.tuple #[.int .i64 s,.int .i64 p,.int .i64 0])∧Below w.heap.size w w':=by
 obtain rfl:=HK.out;refine(qle m l A c h w (HI.out.now HX.out) HS.out HT.out).mono fun e w' ⟨s',p',er,he,hb,_,hy⟩=> ?_;obtain⟨e1,e2,e3⟩:=hy HR.out;subst e1;rw[he,e2,e3,HSN.out,HPN.out];exact⟨rfl,hb⟩
theorem q8u{l:List (List zm)}{A:Option Addr}{c k:Nat}{s p:Int}(HI:Hid (zi w0 w0.heap.size h m))(HX:Hid (Below w0.heap.size w0 w))(HS:Hid (vd m=true))(HT:Hid (qU m w A c l))(HK:Hid (l.length=k))(HR:Hid (jr m=true))(HSN:Hid (Zj m l=s))(HPN:Hid (kW m=p)):
  Calls Tryz.prog 13 #[zk h m,.slice A k c] w fun e w'=>e= .returned (.tuple #[.int .i64 s,.int .i64 p,.bool true])∧Below w.heap.size w w':=by
 refine(qam HI HX HS HT HK).mono fun e w' ⟨s',p',ok,he,hb,ho,hy⟩=> ?_;rw[HR.out]at ho;subst ho;obtain⟨e2,e3⟩:=hy rfl;rw[he,e2,e3,HSN.out,HPN.out];exact⟨rfl,hb⟩
end
theorem qfj{l:List (List zm)}{A A':Option Addr}{c c' k k':Nat}{w:World}(HT:Hid (zd (zG jp 2) 1 w w.heap.size A c l))(HT':Hid (zd (zG jp 2) 1 w w.heap.size A' c' l))(HK:Hid (l.length=k))(HK':Hid (l.length=k')):
  Calls Tryz.prog 14 #[.slice A k c,.slice A' k' c'] w fun e w'=>e= .returned (.bool true)∧Below w.heap.size w w':=by
 obtain rfl:=HK.out;obtain rfl:=HK'.out;exact qf3 l A A' c c' w HT.out HT'.out
end Go.Proofs.YtcmiljnbmgkdnaaGreat
