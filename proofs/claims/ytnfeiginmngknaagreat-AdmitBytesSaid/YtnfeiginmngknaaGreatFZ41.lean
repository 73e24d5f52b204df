import Derived.Test.YtnfeiginmngknaaGreatFZ40
namespace Go.Proofs.YtnfeiginmngknaaGreat
set_option maxRecDepth 100000
set_option linter.unusedVariables false
set_option linter.unusedSimpArgs false
open Go.ChangeShapes Go.WideShapes Go.ChangeAt Go.RowKit
def rW:zl:=⟨[],[],(5,0),[(33,0,0)],0,0,[0]⟩
def jI(s:Int):za:=⟨[],[],[],[rW],[0],s,0⟩
def Vg:List (List zq):=[[⟨true,[]⟩]]
theorem qf4:jQ (jI 3)=0:=Ey (by decide) (by simp[okB,jI,rW,vC,YY,jK,VB,zK,Qu,Zz,jl])
theorem Ep:jQ (jI 2)=0:=Ey (by decide) (by simp[okB,jI,rW,vC,YY,jK,VB,zK,Qu,Zz,jl])
theorem qf5(s:Int):bW (jI s) Vg=true:=by rfl
theorem qf2{s:Int}{l:List (List zq)}(h:bQ (jI s) l):l=Vg:=by
 obtain⟨hl,hF⟩:=h;obtain⟨S,rfl⟩:∃S,l=[S]:=by
  match l,hl with
  | [S],_=>exact⟨S,rfl⟩
 have h1:=(hF 0 S rfl).2.right;unfold vL Ff at h1;simp only[Xt,Xw]at h1;obtain⟨⟨_,h2,h3,h4⟩,_⟩:=h1;have h2:S.length=1:=h2;obtain⟨⟨b,st⟩,rfl⟩:∃x,S=[x]:=by
  match S,h2 with
  | [x],_=>exact⟨x,rfl⟩
 have h3:b=true:=h3;have h4:st.length=0:=h4;rw[h3,List.length_eq_zero_iff.mp h4];rfl
theorem adm_e3:vv (jI 3) Vg=0:=by decide
theorem adm_e2:vv (jI 2) Vg=7:=by decide
theorem q0y{s er:Int}{n:Nat}{T:List (List zq)->Prop}(h0:jQ (jI s)=0)(h:YT (jI s) er n T):er=vv (jI s) Vg/\(er=0->n=1/\T Vg):=by
 rcases h with⟨h1,_⟩|⟨_,_,_,h4⟩|⟨_,l,h2,h3,_,h5⟩
 ·exact absurd h0 h1
 ·have:=h4 Vg;rw[qf5]at this;cases this
 ·have e:=qf2 h2;subst e;exact⟨h3,h5⟩
def VM(N:Nat):zh:=⟨none,none,none,some ⟨N+1+1,0,none⟩,some ⟨N+1+1+1,0,none⟩,0,0,0,1,1⟩
structure Qp(w:World)(N:Nat)(s:Int):Prop where
 code:zQ w N [.int .i64 33,.int .i64 0,.int .i64 0]
 phi:zQ w (N+1) [.int .i64 0]
 mth:zQ w (N+1+1) [.slice none 0 0,.slice none 0 0,.int .i64 5,.int .i64 0,.slice (some ⟨N,0,none⟩) 1 1,.int .i64 0,.int .i64 0,.slice (some ⟨N+1,0,none⟩) 1 1]
 ent:zQ w (N+1+1+1) [.int .i64 0]
 box:zm w (N+1+1+1+1) [.slice none 0 0,.slice none 0 0,.slice none 0 0,.slice (some ⟨N+1+1,0,none⟩) 1 1,.slice (some ⟨N+1+1+1,0,none⟩) 1 1,.int .i64 s,.int .i64 0] 29
theorem Qp.lt{w:World}{N:Nat}{s:Int}(h:Qp w N s):N+1+1+1+1<w.heap.size:=h.box.lt
theorem Qp.img{w:World}{N:Nat}{s:Int}(h:Qp w N s):zQ w (N+1+1+1+1) [.slice none 0 0,.slice none 0 0,.slice none 0 0,.slice (some ⟨N+1+1,0,none⟩) 1 1,.slice (some ⟨N+1+1+1,0,none⟩) 1 1,.int .i64 s,.int .i64 0]:=h.box.cells
theorem Qp.keep{w w':World}{N:Nat}{s:Int}(h:Qp w N s)(hb:Below w.heap.size w w'):Qp w' N s:=by
 have hl:=h.lt;exact⟨h.code.keep hb (by omega),h.phi.keep hb (by omega),h.mth.keep hb (by omega),h.ent.keep hb (by omega),h.box.keep hb hl⟩
theorem Ej{w:World}{g g' i:Nat}{vs:List Value}{v:Value}(h:zQ w g vs)(hg:g'≠g):zQ (w.setCell ⟨g',i,none⟩ v) g vs:=fun j u hu=>
 (World.cell?_setCell_far _ _ _ _ (fun e=>hg e)).trans (h j u hu)
theorem Qp.turn{w:World}{N:Nat}{s:Int}(h:Qp w N s)(t:Int):Qp (w.setCell ⟨N+1+1+1+1,5,none⟩ (.int .i64 t)) N t:=
 ⟨Ej h.code (by omega),Ej h.phi (by omega),Ej h.mth (by omega),Ej h.ent (by omega),h.box.set 5 _⟩
theorem Qp.image{w:World}{N:Nat}{s:Int}(h:Qp w N s):zr w w.heap.size (VM N) (jI s)/\YW w (N+1+1+1+1) (VM N) (jI s):=by
 have hl:=h.lt;have hC:zd ju 3 w w.heap.size (some ⟨N,0,none⟩) 1 rW.code:=⟨zn _,by show 1<=9223372036854775807;decide,fun i t hi=>by
  match i,hi with
  |0,hi=>cases hi;exact⟨_,rfl,(by show N<_;omega),h.code 0 _ rfl,h.code 1 _ rfl,h.code 2 _ rfl⟩
  |i+1,hi=>cases hi⟩
 have hP:zd zu 1 w w.heap.size (some ⟨N+1,0,none⟩) 1 [0]:=⟨zn _,by show 1<=9223372036854775807;decide,fun i t hi=>by
  match i,hi with
  |0,hi=>cases hi;exact⟨_,rfl,(by show N+1<_;omega),h.phi 0 _ rfl⟩
  |i+1,hi=>cases hi⟩
 have hE:zd zu 1 w w.heap.size (some ⟨N+1+1+1,0,none⟩) 1 [0]:=⟨zn _,by show 1<=9223372036854775807;decide,fun i t hi=>by
  match i,hi with
  |0,hi=>cases hi;exact⟨_,rfl,(by show N+1+1+1<_;omega),h.ent 0 _ rfl⟩
  |i+1,hi=>cases hi⟩
 have c4:=h.mth;have hM:zd kd 8 w w.heap.size (some ⟨N+1+1,0,none⟩) 1 [rW]:=⟨zn _,by show 1<=9223372036854775807;decide,fun i t hi=>by
  match i,hi with
  |0,hi=>cases hi;exact⟨_,rfl,(by show N+1+1<_;omega),⟨none,0,c4 0 _ rfl,va⟩,⟨none,0,c4 1 _ rfl,va⟩,c4 2 _ rfl,c4 3 _ rfl,⟨_,1,c4 4 _ rfl,hC⟩,c4 5 _ rfl,c4 6 _ rfl,⟨_,1,c4 7 _ rfl,hP⟩⟩
  |i+1,hi=>cases hi⟩
 exact⟨⟨va,va,va,hM,hE⟩,⟨h.img 0 _ rfl,h.img 1 _ rfl,h.img 2 _ rfl,h.img 3 _ rfl,h.img 4 _ rfl,h.img 5 _ rfl,h.img 6 _ rfl⟩⟩
def admW(w:World):World:=((((w.alloc (.cells #[.int .i64 33,.int .i64 0,.int .i64 0] 50)).alloc (.cells #[.int .i64 0] 3)).alloc (.cells #[.slice none 0 0,.slice none 0 0,.int .i64 5,.int .i64 0,.slice (some ⟨w.heap.size,0,none⟩) 1 1,.int .i64 0,.int .i64 0,.slice (some ⟨w.heap.size+1,0,none⟩) 1 1] 48)).alloc (.cells #[.int .i64 0] 3)).alloc
 (.cells #[.slice none 0 0,.slice none 0 0,.slice none 0 0,.slice (some ⟨w.heap.size+1+1,0,none⟩) 1 1,.slice (some ⟨w.heap.size+1+1+1,0,none⟩) 1 1,.int .i64 3,.int .i64 0] 29)
theorem qf6(w:World):Below w.heap.size w (admW w)/\Qp (admW w) w.heap.size 3:=by
 obtain⟨c0,z0,b0⟩:=Jf (w:=w) rfl [.int .i64 33,.int .i64 0,.int .i64 0] 50;obtain⟨c1,z1,b1⟩:=Jf z0 [.int .i64 0] 3;obtain⟨c2,z2,b2⟩:=Jf z1 [.slice none 0 0,.slice none 0 0,.int .i64 5,.int .i64 0,.slice (some ⟨w.heap.size,0,none⟩) 1 1,.int .i64 0,.int .i64 0,.slice (some ⟨w.heap.size+1,0,none⟩) 1 1] 48;obtain⟨c3,z3,b3⟩:=Jf z2 [.int .i64 0] 3;have hw:=zm.at_ z3 [.slice none 0 0,.slice none 0 0,.slice none 0 0,.slice (some ⟨w.heap.size+1+1,0,none⟩) 1 1,.slice (some ⟨w.heap.size+1+1+1,0,none⟩) 1 1,.int .i64 3,.int .i64 0] 29;obtain⟨c4,z4,b4⟩:=Jf z3 [.slice none 0 0,.slice none 0 0,.slice none 0 0,.slice (some ⟨w.heap.size+1+1,0,none⟩) 1 1,.slice (some ⟨w.heap.size+1+1+1,0,none⟩) 1 1,.int .i64 3,.int .i64 0] 29;have b3':=b3.trans (b4.mono (by omega));have b2':=b2.trans (b3'.mono (by omega));have b1':=b1.trans (b2'.mono (by omega));exact⟨b0.trans (b1'.mono (by omega)),c0.keep b1' (by omega),c1.keep b2' (by omega),c2.keep b3' (by omega),c3.keep b4 (by omega),hw⟩
section
variable{w:World}{N:Nat}{s:Int}
theorem qik(H:Hid (Qp w N 3)):Calls Tryz.prog 12 #[zv (VM N) (jI 3)] w fun e w'=>∃A c,e= .returned (.tuple #[.slice A 1 c,.int .i64 0])/\Below w.heap.size w w'/\Vw (jI 3) w w' A c Vg:=
 (Ki (jI 3) (VM N) w H.out.image.1).mono fun e w' ⟨A,n,c,er,h1,h2,h3⟩=>by
  obtain⟨h4,h5⟩:=q0y qf4 h3;rw[adm_e3]at h4;subst h4;obtain⟨rfl,h6⟩:=h5 rfl;exact⟨A,c,h1,h2,h6⟩
theorem qkg(H:Hid (Qp w N 2)):Calls Tryz.prog 12 #[zv (VM N) (jI 2)] w fun e w'=>∃A n c,e= .returned (.tuple #[.slice A n c,.int .i64 7])/\Below w.heap.size w w':=
 (Ki (jI 2) (VM N) w H.out.image.1).mono fun e w' ⟨A,n,c,er,h1,h2,h3⟩=>by
  obtain⟨h4,_⟩:=q0y Ep h3;rw[adm_e2]at h4;subst h4;exact⟨A,n,c,h1,h2⟩
theorem qa2{A:Option Addr}{c:Nat}(H:Hid (Qp w N 2))(HT:Hid (jO (jI 2) w A c Vg)):Calls Tryz.prog 13 #[zv (VM N) (jI 2),.slice A 1 c] w fun e w'=>e= .returned (.tuple #[.int .i64 3,.int .i64 0,.int .i64 0])/\Below w.heap.size w w':=
 (SF (jI 2) Vg A c (VM N) w H.out.image.1 (Kq Ep) HT.out).mono fun e w' ⟨s',p',er,h1,h2,_,h3⟩=>by
  obtain⟨e1,e2,e3⟩:=h3 (by decide);have e4:pI (jI 2) Vg=3:=by decide
  have e5:pX (jI 2)=0:=by decide
  rw[e4]at e2;rw[e5]at e3;subst e1 e2 e3;exact⟨h1,h2⟩
theorem qf0(H:Hid (Qp w N 2)):Calls Tryz.prog 6 #[zv (VM N) (jI 2)] w fun e w'=>e= .returned (.bool true)/\Below w.heap.size w w':=by
 have h:=y8 (jI 2) (VM N) w.heap.size w (zn _) H.out.image.1;rw[show zV (jI 2)=true by decide]at h;exact h
theorem qa3(H:Hid (Qp w N 2)):Calls Tryz.prog 14 #[zv (VM N) (jI 2)] w fun e w'=>∃A c,e= .returned (.slice A 1 c)/\Below w.heap.size w w':=
 (q6x (jI 2) (VM N) w H.out.image.1 (by decide) (by decide) (fun x hx=>by have:=(((mW Ep)).method hx).fits.cl;omega)).mono fun e w' ⟨v,xs,h1,h2,h3⟩=>by
  rcases Je h2 with⟨e1,hz⟩|⟨g,c,e1,_,_⟩
  ·cases hz
  ·exact⟨_,c,by rw[h1,e1];rfl,h3⟩
theorem qf1(H:Hid (Qp w N 2)):Calls Tryz.prog 15 #[zv (VM N) (jI 2),qt 33 0 0] w fun e w'=>e= .returned (.int .i64 0)/\Below w.heap.size w w':=
 I4 (x:=rW) (zH H.out.image.1) (zH (zb _ _)) (zH (mW Ep)) (zH (by simp[jI])) (zH (by simp[rW])) (zH rfl)
end
theorem qf3{w:World}{A:Option Addr}{c:Nat}(h:jO (jI 3) w A c Vg):jO (jI 2) w A c Vg:=⟨h.1,h.2.1,h.2.2.1,fun i S hi=>qhm (s:=2) (h:=0) (h.2.2.2 i S hi)⟩
set_option maxHeartbeats 12800000 in
theorem Dc(w:World):
  Calls Tryz.prog 5 #[] w fun e w'=>e= .returned (.bool true)/\Below w.heap.size w w':=by
 obtain⟨hb,hx⟩:=qf6 w;have HW:=zH hb;have HBX:=zH hx;clear hb hx;go_enter Tryz.func5,Tryz.ntmps5;go_upto_region 2 with fail
 change Code.wp _ _ _ _ (admW w);generalize admW w=w1 at*
 obtain⟨N,hN⟩:=zj (w.heap.size);have Yf:=zH hN;simp only[hN]at HBX⊢
 clear hN;obtain⟨q0,q1,q2,q3,q4,q5,q6⟩:=HBX.out.image.2;go_upto_region 3 with(go_at_call 12;(with_reducible refine(qik HBX).mono ?_);rintro e w2 ⟨A2,c2,rfl,hb,ht⟩;have HB2:=zH (HBX.out.keep hb);have HT2:=zH ht;have kC:=zH HBX.out.lt;have HX2:=zH hb;clear hb ht)
 clear q0 q1 q2 q3 q4 q5 q6;have q5:=HB2.out.img 5 _ rfl;have f5:=HB2.out.box.free 5;have HB3:=zH (HB2.out.turn 2);have HT3:Hid (Vw (jI 3) w1 (w2.setCell ⟨N+1+1+1+1,5,none⟩ (.int .i64 2)) A2 c2 Vg):=zH (HT2.out.to (zn _) (by simp) fun b _ hb=>XJ _ _ _ _ (by have:=kC.out;show b≠N+1+1+1+1;omega));have HW3:Hid (Below w.heap.size w (w2.setCell ⟨N+1+1+1+1,5,none⟩ (.int .i64 2))):=zH ((zD HW HX2).setCell (by rw[Yf.out];show N<=N+1+1+1+1;omega) _);go_upto_region 4 with fail
 clear q5 f5;generalize w2.setCell ⟨N+1+1+1+1,5,none⟩ (.int .i64 2)=w3 at*
 obtain⟨q0,q1,q2,q3,q4,q5,q6⟩:=HB3.out.image.2;go_upto_region 5 with(go_at_call 12;(with_reducible refine(qkg HB3).mono ?_);rintro e w4 ⟨A4,n4,c4,rfl,hb⟩;have jw:=zH (HB3.out.keep hb);have Ja:=zH (qf3 (HT3.out.now hb).in_);have kj:=zH (HW3.out.trans (hb.mono HW3.out.size));clear hb)
 clear q0 q1 q2 q3 q4 q5 q6;obtain⟨q0,q1,q2,q3,q4,q5,q6⟩:=jw.out.image.2;go_upto_region 6 with(go_at_call 13;(with_reducible refine(qa2 jw Ja).mono ?_);rintro e w5 ⟨rfl,hb⟩;have kh:=zH (jw.out.keep hb);have qM:=zH (kj.out.trans (hb.mono kj.out.size));clear hb)
 clear q0 q1 q2 q3 q4 q5 q6;go_upto_region 7 with(go_at_call 8;(with_reducible refine(qa6 _).mono ?_);rintro e w6 ⟨rfl,hb⟩;have hb2:=(zb w6.heap.size w6).alloc (zn _) jV;have hb:=hb.trans (hb2.mono hb.size);have Zk:=zH (kh.out.keep hb);have dW:=zH (qM.out.trans (hb.mono qM.out.size));clear hb hb2)
 generalize w6.alloc jV=w6 at*
 have qI:Hid (∀W,Below w6.heap.size w6 W->(fun w':World=>w'.cell? ⟨N+1+1+1+1,0,none⟩=some (.slice none 0 0)/\w'.cell? ⟨N+1+1+1+1,1,none⟩=some (.slice none 0 0)/\w'.cell? ⟨N+1+1+1+1,2,none⟩=some (.slice none 0 0)/\w'.cell? ⟨N+1+1+1+1,3,none⟩=some (.slice (some ⟨N+1+1,0,none⟩) 1 1)/\w'.cell? ⟨N+1+1+1+1,4,none⟩=some (.slice (some ⟨N+1+1+1,0,none⟩) 1 1)/\w'.cell? ⟨N+1+1+1+1,5,none⟩=some (.int .i64 2)/\w'.cell? ⟨N+1+1+1+1,6,none⟩=some (.int .i64 0)/\w'.cell? ⟨N+1+1,4,none⟩=some (.slice (some ⟨N,0,none⟩) 1 1)/\w'.cell? ⟨N,0,none⟩=some (.int .i64 33)/\w'.cell? ⟨N,1,none⟩=some (.int .i64 0)/\w'.cell? ⟨N,2,none⟩=some (.int .i64 0)) W):=zH (fun W hW=>by
  have hg:=Zk.out.keep hW;exact⟨hg.img 0 _ rfl,hg.img 1 _ rfl,hg.img 2 _ rfl,hg.img 3 _ rfl,hg.img 4 _ rfl,hg.img 5 _ rfl,hg.img 6 _ rfl,hg.mth 4 _ rfl,hg.code 0 _ rfl,hg.code 1 _ rfl,hg.code 2 _ rfl⟩)
 have Qg:Hid (Below w6.heap.size w6 w6.drew):=zH (zb _ _).drew;have jZ:=zH (Zk.out.keep Qg.out);refine wp_region_noPanic ?_;refine wp_region_held_drew (S:=(fun w':World=>w'.cell? ⟨N+1+1+1+1,0,none⟩=some (.slice none 0 0)/\w'.cell? ⟨N+1+1+1+1,1,none⟩=some (.slice none 0 0)/\w'.cell? ⟨N+1+1+1+1,2,none⟩=some (.slice none 0 0)/\w'.cell? ⟨N+1+1+1+1,3,none⟩=some (.slice (some ⟨N+1+1,0,none⟩) 1 1)/\w'.cell? ⟨N+1+1+1+1,4,none⟩=some (.slice (some ⟨N+1+1+1,0,none⟩) 1 1)/\w'.cell? ⟨N+1+1+1+1,5,none⟩=some (.int .i64 2)/\w'.cell? ⟨N+1+1+1+1,6,none⟩=some (.int .i64 0)/\w'.cell? ⟨N+1+1,4,none⟩=some (.slice (some ⟨N,0,none⟩) 1 1)/\w'.cell? ⟨N,0,none⟩=some (.int .i64 33)/\w'.cell? ⟨N,1,none⟩=some (.int .i64 0)/\w'.cell? ⟨N,2,none⟩=some (.int .i64 0))) (by kernel_rfl) (qI.out _ Qg.out) (fun hHeld=> ?_);generalize w6.drew=wd at Qg jZ hHeld⊢
 try dsimp only[List.append]
 refine mT 0 (h:=mT 1 (h:=mT 2 (h:=mT 3 (h:=mT 4 (h:=mT 5 (h:=mT 6 (h:=mT 7 (h:= ?_))))))));refine mT 8 (h:=mT 9 (h:=mT 10 (h:=mT 11 (h:=mT 12 (h:=mT 13 (h:=mT 14 (h:=mT 15 (h:= ?_))))))));refine mT 16 (h:=mT 17 (h:=mT 18 (h:=mT 19 (h:=mT 20 (h:=mT 21 (h:=mT 22 (h:=mT 23 (h:= ?_))))))));refine mT 24 (h:=mT 25 (h:=mT 26 (h:=mT 27 (h:=mT 28 (h:= ?_)))));refine mR 29 (h:=fun K hK=> ?_);go_simp;(go_at_call 6;(refine(qf0 jZ).mono ?_);rintro e w7 ⟨rfl,hb⟩;have hz:=Qg.out.size;replace Qg:=zH (Qg.out.trans (hb.mono hz));replace jZ:=zH (jZ.out.keep hb);clear hz hb)
 refine mK hK (qI.out _ Qg.out) (h:=fun hHeld=> ?_);clear hK K;refine mT 30 (h:=mT 31 (h:=mT 32 (h:= ?_)));refine mR 33 (h:=fun K hK=> ?_);go_simp;(go_at_call 14;(refine(qa3 jZ).mono ?_);rintro e w7 ⟨A8,c8,rfl,hb⟩;have hz:=Qg.out.size;replace Qg:=zH (Qg.out.trans (hb.mono hz));replace jZ:=zH (jZ.out.keep hb);clear hz hb)
 refine mK hK (qI.out _ Qg.out) (h:=fun hHeld=> ?_);clear hK K;refine mT 34 (h:=mT 35 (h:=mT 36 (h:=mT 37 (h:=mT 38 (h:=mT 39 (h:=mT 40 (h:=mT 41 (h:= ?_))))))));refine mT 42 (h:=mT 43 (h:=mT 44 (h:=mT 45 (h:= ?_))));refine mR 46 (h:=fun K hK=> ?_);go_simp;(go_at_call 15;(refine(qf1 jZ).mono ?_);rintro e w7 ⟨rfl,hb⟩;have hz:=Qg.out.size;replace Qg:=zH (Qg.out.trans (hb.mono hz));replace jZ:=zH (jZ.out.keep hb);clear hz hb)
 refine mK hK (qI.out _ Qg.out) (h:=fun hHeld=> ?_);clear hK K;refine mT 47 (h:=mT 48 (h:=mT 49 (h:= ?_)));refine wpAnyH_done (by kernel_rfl) ?_ _;refine NoPanic.normal ?_;go_wp2_with fail
 go_ret;exact⟨by first|rfl|simp,zD dW Qg⟩
section
variable{m:za}{h:zh}{w0 w:World}
theorem qc2(HI:Hid (zr w0 w0.heap.size h m))(HX:Hid (Below w0.heap.size w0 w)):
  Calls Tryz.prog 10 #[zv h m] w fun e w'=>∃A n c er,e= .returned (.tuple #[.slice A n c,.int .i64 er])/\Below w.heap.size w w'/\YT m er n (jO m w' A c):=q73 m h w (HI.out.now HX.out)
end
theorem q3v{l:List (List zq)}{A A':Option Addr}{c c' k k':Nat}{w:World}(HT:Hid (zd (zM vd 2) 1 w w.heap.size A c l))(dJ:Hid (zd (zM vd 2) 1 w w.heap.size A' c' l))(HK:Hid (l.length=k))(HK':Hid (l.length=k')):
  Calls Tryz.prog 11 #[.slice A k c,.slice A' k' c'] w fun e w'=>e= .returned (.bool true)/\Below w.heap.size w w':=by
 obtain rfl:=HK.out;obtain rfl:=HK'.out;exact q3f l A A' c c' w HT.out dJ.out
theorem qf8{w:World}{A:Option Addr}{c n:Nat}{L:List Int}(H:Hid (bV w A c L))(HN:Hid (L.length=n)):Calls Tryz.prog 8 #[.slice A n c] w (UB L w):=by
 obtain rfl:=HN.out;exact qa5 L A c w H.out.len H.out.le H.out.cap H.out.rng H.out.none H.out.lie
def EncRow(L:List Int)(w:World)(e:Ending)(w':World):Prop:=
 ∃g c,e= .returned (.slice (some ⟨g,0,none⟩) L.length c)/\w'.ownsRow w.heap.size 5 1 (.slice (some ⟨g,0,none⟩) L.length c) L.length (L.map (Value.int .u8))/\bV w' (some ⟨g,0,none⟩) c L/\Below w.heap.size w w'
theorem IE{w:World}{g:Nat}{h:zh}{m:za}{L:List Int}(HM:Hid (Boxed w g h m))(HF:Hid (zV m=true))(HE:Hid (Js m=L)):
  Calls Tryz.prog 7 #[zv h m] w (EncRow L w):=by
 have hp:0<L.length:=by rw[<-HE.out];have:=Sk m;omega
 have hlen:L.length<=30000:=by rw[<-HE.out];exact q95 ⟨HF.out,LZ HM.out.img⟩
 refine(q4t m h w.heap.size w HF.out (zn _) HM.out.img).mono ?_;have hrg:∀b ∈L,0<=b/\b<=255:=by rw[<-HE.out];exact PL m
 rw[HE.out];rintro e w' ⟨v,rfl,ho,hb⟩;obtain⟨g,c,rfl,g1,g2,_,_,hL⟩:=KA ho hp;exact⟨g,c,rfl,ho,⟨by omega,g1,g2,hrg,(fun e=>by cases e),hL⟩,hb⟩
theorem WO{w:World}{g:Nat}{h:zh}{m:za}(H:Hid (Boxed w g h m)):Hid (zr w w.heap.size h m):=zH H.out.img
theorem SB(w:World):Hid (Below w.heap.size w w):=zH (zb _ _)
theorem qae{x y:Int}(hx:0<=x/\x<=255)(hy:0<=y/\y<=255):0<=bits .xor .u8 x y/\bits .xor .u8 x y<=255:=by
 obtain⟨a,rfl⟩:=Xj hx.1;obtain⟨b,rfl⟩:=Xj hy.1;rw[xor_u8 a b (by omega) (by omega)];have hl:a ^^^ b<2 ^ 8:=Nat.xor_lt_two_pow (by omega) (by omega);exact⟨by omega,by omega⟩
theorem SN{m:za}{w:World}{A:Option Addr}{c:Nat}{l:List (List zq)}(H:Hid (jO m w A c l)):Hid (zd (zM vd 2) 1 w w.heap.size A c l):=zH H.out.1
def hn0:zh:=⟨none,none,none,none,none,0,0,0,0,0⟩
theorem q6n{w:World}{g:Nat}{h:zh}(HM:Hid (Boxed w g h ji)):
  Calls Tryz.prog 9 #[zv h ji,.agg #[.slice none 0 0,.slice none 0 0,.slice none 0 0,.slice none 0 0,.slice none 0 0,.int .i64 0,.int .i64 0]] w fun e w'=>e= .returned (.bool true)/\Below w.heap.size w w':=by
 have H:=qbm ji ji h hn0 w.heap.size w (zn _) HM.out.img ⟨va,va,va,va,va⟩;rw[Xi (rfl:ji=ji)]at H;exact H
theorem qa7{L:List Int}{x:za}{n:Nat}{er:Int}{T:za->List (List zq)->Prop}{x0:za}{ed:Int}(hd:rT L x0 ed)(h:(ed≠0/\er=2/\x=ji/\n=0)\/(ed=0/\YT x0 er n (T x0)/\(er=0->x=x0)/\(er≠0->x=ji)))(he:er≠0):
  x=ji/\n=0/\(er=2->∀m,iF m->Js m=L->8192<L.length):=by
 rcases h with⟨h1,h2,h3,h4⟩|⟨h1,h2,_,h4⟩
 ·refine⟨h3,h4,fun _=> ?_⟩;rcases hd with⟨q,_⟩|⟨_,_,q⟩
  ·exact absurd q h1
  ·exact q
 ·refine⟨h4 he,(Eo h2).1 he,fun e2=> ?_⟩;rcases hd with⟨_,hf,_,_⟩|⟨q,_⟩
  ·exfalso;rcases h2 with⟨a1,a2,_⟩|⟨_,a2,_⟩|⟨_,l,_,a2,_⟩
   ·rw[e2]at a2;have:jQ x0≠2:=by
     unfold jQ;rw[Xa (by rw[hf];decide)];split<;>decide
    exact this a2.symm
   ·rw[e2]at a2;cases a2
   ·rcases Uv x0 l with q|q|q|⟨q,_⟩
    ·rw[q,e2]at a2;cases a2
    ·rw[q,e2]at a2;cases a2
    ·rw[q,e2]at a2;cases a2
    ·rw[q,e2]at a2;cases a2
  ·rw[h1]at q;cases q
structure qW(w0 wx:World)(N g:Nat)(h hx:zh)(m x:za)(A2:Option Addr)(c2:Nat)(L:List Int):Prop where
 m:Boxed wx N h m
 x:Boxed wx g hx x
 b:bV wx A2 c2 L
 w:Below w0.heap.size w0 wx
abbrev Mi(N g:Nat)(h hx:zh)(m x:za)(A2:Option Addr)(c2:Nat)(L:List Int)(w':World):Prop:=I7h N h m w' (w'.cell? ⟨g,0,none⟩=some (.slice hx.A0 x.classes.length hx.c0)/\w'.cell? ⟨g,1,none⟩=some (.slice hx.A1 x.statics.length hx.c1)/\w'.cell? ⟨g,2,none⟩=some (.slice hx.A2 x.ints.length hx.c2)/\w'.cell? ⟨g,3,none⟩=some (.slice hx.A3 x.methods.length hx.c3)/\w'.cell? ⟨g,4,none⟩=some (.slice hx.A4 x.entries.length hx.c4)/\w'.cell? ⟨g,5,none⟩=some (.int .i64 x.stack)/\w'.cell? ⟨g,6,none⟩=some (.int .i64 x.heap)/\(convert 22 9 (.slice A2 L.length c2)).run Tryz.prog w'= .ok (.string (strOfNums L)) w')
section
variable{w0 wx wy:World}{N g:Nat}{h hx:zh}{m x:za}{A2:Option Addr}{c2:Nat}{L:List Int}
theorem qW.new(hm:Hid (Boxed wx N h m))(hx':Hid (Boxed wx g hx x))(hb:Hid (bV wx A2 c2 L))(hw:Hid (Below w0.heap.size w0 wx)):Hid (qW w0 wx N g h hx m x A2 c2 L):=zH ⟨hm.out,hx'.out,hb.out,hw.out⟩
theorem qW.keep(H:Hid (qW w0 wx N g h hx m x A2 c2 L))(hb:Below wx.heap.size wx wy):Hid (qW w0 wy N g h hx m x A2 c2 L):=zH ⟨H.out.m.keep hb,H.out.x.keep hb,H.out.b.keep hb,H.out.w.trans (hb.mono H.out.w.size)⟩
theorem qW.held(H:Hid (qW w0 wx N g h hx m x A2 c2 L)):Mi N g h hx m x A2 c2 L wx:=by
 obtain⟨q0,q1,q2,q3,q4,q5,q6⟩:=H.out.m.box;obtain⟨p0,p1,p2,p3,p4,p5,p6⟩:=H.out.x.box;exact⟨q0,q1,q2,q3,q4,q5,q6,p0,p1,p2,p3,p4,p5,p6,mG (cap:=c2) H.out.b.lie⟩
theorem qW.bm(H:Hid (qW w0 wx N g h hx m x A2 c2 L)):Hid (Boxed wx N h m):=zH H.out.m
theorem qW.bx(H:Hid (qW w0 wx N g h hx m x A2 c2 L)):Hid (Boxed wx g hx x):=zH H.out.x
end
theorem O1{P:Prop}(h:P:=by
 refine mT 18 (h:=mT 19 (h:=mU 20 (h:=mU 21 (h:=mU 22 (h:=mT 23 (h:=mT 24 (h:=mU 25 (h:= ?_))))))));refine mU 26 (h:=mU 27 (h:=mU 28 (h:=mU 29 (h:=mU 30 (h:=mT 31 (h:=mT 32 (h:=mT 33 (h:= ?_))))))));refine wpAnyH_done (by kernel_rfl) ?_ _;refine NoPanic.normal ?_;go_wp2
 go_ret;exact⟨by first|rfl|simp,HA.out.w⟩):P:=h
set_option maxHeartbeats 12800000 in
theorem q3a(z:List Int)(A:Option Addr)(cap:Nat)(m:za)(t:Int)(h:zh)(w:World)(hz:z.length<=cap)(hcap:cap<=9223372036854775807)(hA:A=none->cap=0)(hr:∀b ∈z,0<=b/\b<=255)(hL:zw w w.heap.size A (z.map (Value.int .u8)))(t0:0<=t)(t1:t<=65535)(H:zr w w.heap.size h m):
  Calls Tryz.prog 3 #[.slice A z.length cap,zv h m,.int .u16 t] w fun e w'=>e= .returned (.bool true)/\Below w.heap.size w w':=by
 have HW:=zH (vU (w:=w) (h:=h) (m:=m));have HM:=zH (Boxed.new H);have hL1:=V7 hL HW.out;obtain⟨r,hrf⟩:=zj (zV m);have HF:=zH hrf;by_cases hbig:2000<z.length
 ·have hbi:(z.length:Int)>2000:=by omega
  clear hL hrf hr hA hL1;go_enter Tryz.func3,Tryz.ntmps3;go_upto_region 1 with fail
  generalize w.alloc (ze h m)=w1 at*
  obtain⟨q0,q1,q2,q3,q4,q5,q6⟩:=HM.out.box;go_wp2_with(go_at_call 5;(with_reducible refine(Dc _).mono ?_);rintro e w2 ⟨rfl,hb⟩;replace HW:=zi HW hb;clear hb)
  go_ret;exact⟨rfl,HW.out⟩
 have hbi:¬(z.length:Int)>2000:=by omega
 have HB:Hid (bV (w.alloc (ze h m)) A cap z):=zH ⟨by omega,hz,hcap,hr,hA,hL1⟩;have vQ:Hid (zV m=true->iF m):=zH (fun e=>⟨e,LZ HM.out.img⟩);clear hL hrf hr hA hL1 H hbig;go_enter Tryz.func3,Tryz.ntmps3;go_upto_region 1 with fail
 generalize w.alloc (ze h m)=w1 at*
 obtain⟨q0,q1,q2,q3,q4,q5,q6⟩:=HM.out.box;go_upto_region 3 with(first|(go_at_call 4;(with_reducible refine(q64 (WO HM) (SB _)).mono ?_);rintro e w2 ⟨b,rfl,hb⟩;replace HM:=zH (HM.out.keep hb);replace HB:=zH (HB.out.keep hb);replace HW:=zi HW hb;clear q0 q1 q2 q3 q4 q5 q6;obtain⟨q0,q1,q2,q3,q4,q5,q6⟩:=HM.out.box;clear hb;cases b)|(go_at_call 5;(with_reducible refine(Dc _).mono ?_);rintro e w2 ⟨rfl,hb⟩;replace HW:=zi HW hb;clear hb))
 ·go_ret;exact⟨rfl,HW.out⟩
 go_upto_if 22 with(go_at_call 6;(with_reducible refine(K7 HM HF).mono ?_);rintro e w3 ⟨rfl,hb⟩;replace HM:=zH (HM.out.keep hb);replace HB:=zH (HB.out.keep hb);replace HW:=zi HW hb;clear hb)
 clear q0 q1 q2 q3 q4 q5 q6;have HX0:=qP w3;go_cut [0]from 23 to 44 (fun s wx=>∃A2 c2 L,s= .slice A2 (L:List Int).length c2/\Hid (bV wx A2 c2 L)/\Hid (Below w3.heap.size w3 wx))
 case first=>
  obtain⟨q0,q1,q2,q3,q4,q5,q6⟩:=HM.out.box;cases r with
  |false=>
   go_wp2_with fail
   go_meet
   exact⟨A,cap,z,rfl,HB,HX0⟩
  |true=>
   obtain⟨E,hE⟩:=zj (Js m);have HE:=zH hE;have hEp:0<E.length:=by rw[<-hE];have:=Sk m;omega
   clear hE;go_upto_region 5 with(go_at_call 7;(with_reducible refine(IE HM HF HE).mono ?_);rintro e w4 ⟨g,c,rfl,ho,hbi,hb⟩;have HO:=zH ho;have aU:=zH hbi;replace HX0:=zi HX0 hb;clear ho hbi hb)
   clear q0 q1 q2 q3 q4 q5 q6;by_cases ht:0<t
   ·have hti:t>0:=ht;have hEi:(E.length:Int)>0:=by omega
    obtain⟨k,hk⟩:=zj (t.toNat % E.length);have OX:k<E.length:=by rw[<-hk];exact Nat.mod_lt _ hEp
    have e1:t % (E.length:Int)=(k:Int):=by rw[<-hk,Int.natCast_emod,Int.toNat_of_nonneg t0]
    have e2:t.tmod (E.length:Int)=(k:Int):=by rw[Int.tmod_eq_emod_of_nonneg t0];exact e1
    have e4:((E.length:Int)==0)=false:=XG.mpr (by omega);clear hk;have hcell:=Ed aU.out.lie k (by simpa using OX);simp only[List.getElem_map]at hcell;have hfree:=qgo (i:=k) HO.out hEp;have hx:=aU.out.rng E[k] (Xd OX);have lu:=zH (fun v=>qct (v:=v) aU.out.lie OX);generalize E[k]=x at*
    have hfr:=hfree.1;have hy:0<=t / 256/\t / 256<=255:=⟨by omega,by omega⟩
    have hxr:=qae hx hy;go_wp2_with fail
    go_meet
    refine⟨some ⟨g,0,none⟩,c,E.set k (bits BinOp.xor IntKind.u8 x (t / 256)),by rw[XH],zH ⟨by rw[XH];exact aU.out.len,by rw[XH];exact aU.out.le,aU.out.cap,(fun b hb=> ?_),(fun e=>by cases e),lu.out _⟩,zH (HX0.out.setCell (p:=⟨g,k,none⟩) hfree.2 _)⟩;rcases X8 hb with q|q
    ·exact aU.out.rng b q
    ·rw[q];exact hxr
   ·have hti:¬t>0:=ht;go_wp2_with fail
    go_meet
    exact⟨_,_,E,rfl,aU,HX0⟩
 case rest=>
  obtain⟨A2,c2,L,rfl,HB2,HX2⟩:=hcut;replace HM:=zH (HM.out.keep HX2.out);replace HW:=zH (zD HW HX2);replace HB:=HB2;clear HB2 HX0;have kD:Hid (L.length=L.length):=zH rfl;go_upto_region 8 with(go_at_call 8;(with_reducible refine(qf8 HB kD).mono ?_);rintro e w5 ⟨hx,x,Ab,nb,cb,eb,rfl,hi,hb,hd⟩;have aV:=zH hi;have HD:=zH hd;replace HM:=zH (HM.out.keep hb);replace HB:=zH (HB.out.keep hb);replace HW:=zi HW hb;clear hb hi hd)
  obtain⟨x0,ed,hd1,hd2,hd3⟩:=HD.out;have HX:=zH (Boxed.new aV.out);have hbb:=vU (w:=w5) (h:=hx) (m:=x);replace HM:=zH (HM.out.keep hbb);replace HB:=zH (HB.out.keep hbb);replace HW:=zi HW hbb;by_cases h0:eb=0;rotate_left
  ·obtain⟨rfl,rfl,hno⟩:=qa7 (T:=fun y=>jO y w5 Ab cb) hd1 hd3 h0;have hne:(eb !=0)=true:=XP.mpr h0;clear hd1 hd2 hd3 HD aV hbb;generalize hg5:w5.heap.size=g5 at HX⊢
   generalize w5.alloc (ze hx ji)=w6 at*
   clear hg5;obtain⟨q0,q1,q2,q3,q4,q5,q6⟩:=HM.out.box;obtain⟨p0,p1,p2,p3,p4,p5,p6⟩:=HX.out.box;have kz:=mG (cap:=c2) HB.out.lie;go_upto_region 9 with fail
   have HA:=qW.keep (qW.new HM HX HB HW) (zb w6.heap.size w6).drew;clear q0 q1 q2 q3 q4 q5 q6 p0 p1 p2 p3 p4 p5 p6 kz HM HX HB HW;refine wp_region_noPanic ?_;refine wp_region_held_drew (S:=Mi w.heap.size g5 h hx m ji A2 c2 L) (by kernel_rfl) (qW.held HA) (fun hHeld=> ?_);refine mR 0 (h:=fun K hK=> ?_);go_simp;(go_at_call 5;(with_reducible refine(Dc _).mono ?_);rintro e w9 ⟨rfl,hb⟩;replace HA:=qW.keep HA hb;clear hb)
   refine mK hK (qW.held HA) (h:=fun hHeld=> ?_);clear hK K;refine mT 1 (h:=mT 2 (h:=mT 3 (h:=mT 4 (h:=mT 5 (h:=mT 6 (h:=mT 7 (h:=mT 8 (h:= ?_))))))));refine mR 9 (h:=fun K hK=> ?_);go_simp;(go_at_call 9;(with_reducible refine(q6n (qW.bx HA)).mono ?_);rintro e w9 ⟨rfl,hb⟩;replace HA:=qW.keep HA hb;clear hb)
   refine mK hK (qW.held HA) (h:=fun hHeld=> ?_);clear hK K;refine mT 10 (h:=mT 11 (h:=mT 12 (h:=mT 13 (h:=mT 14 (h:= ?_)))));by_cases h2:eb=2;rotate_left
   ·have hb2:(eb !=2)=true:=XP.mpr h2;clear h0 h2 hno;rw[hb2];refine mU 15 (h:=mU 16 (h:=mU 17 (h:= ?_)));exact O1
   subst h2;have qz:=zH (hno rfl);clear hno h0;by_cases h8:8192<L.length
   ·have hi8:(L.length:Int)>8192:=by omega
    clear h8;refine mT 15 (h:=mT 16 (h:=mT 17 (h:= ?_)));exact O1
   have hi8:¬(L.length:Int)>8192:=by omega
   have H8:=zH h8;clear h8;cases r with
   |false=>
    refine mT 15 (h:=mT 16 (h:=mT 17 (h:= ?_)));refine mT 18 (h:=mT 19 (h:=mT 20 (h:= ?_)));refine mR 21 (h:=fun K hK=> ?_);go_simp;(go_at_call 6;(with_reducible refine(K7 (qW.bm HA) HF).mono ?_);rintro e w9 ⟨rfl,hb⟩;replace HA:=qW.keep HA hb;clear hb)
    refine mK hK (qW.held HA) (h:=fun hHeld=> ?_);clear hK K;refine mT 22 (h:=mT 23 (h:=mT 24 (h:=mU 25 (h:=mU 26 (h:=mU 27 (h:=mU 28 (h:=mU 29 (h:= ?_))))))));refine mU 30 (h:=mT 31 (h:=mT 32 (h:=mT 33 (h:= ?_))));refine wpAnyH_done (by kernel_rfl) ?_ _;refine NoPanic.normal ?_;go_wp2
    go_ret;exact⟨by first|rfl|simp,HA.out.w⟩
   |true=>
    obtain⟨E,hE⟩:=zj (Js m);have oJ:=zH hE;have Ya:¬E=L:=fun e=>H8.out (qz.out m (vQ.out HF.out) (hE.trans e));have hss:((strOfNums E).toList==(strOfNums L).toList)=false:=by rw[q0l (by rw[<-hE];exact PL m) HA.out.b.rng];exact Xf Ya
    clear hE Ya;refine mT 15 (h:=mT 16 (h:=mT 17 (h:= ?_)));refine mT 18 (h:=mT 19 (h:=mT 20 (h:= ?_)));refine mR 21 (h:=fun K hK=> ?_);go_simp;(go_at_call 6;(with_reducible refine(K7 (qW.bm HA) HF).mono ?_);rintro e w9 ⟨rfl,hb⟩;replace HA:=qW.keep HA hb;clear hb)
    refine mK hK (qW.held HA) (h:=fun hHeld=> ?_);clear hK K;refine mT 22 (h:=mT 23 (h:=mT 24 (h:=mT 25 (h:=mT 28 (h:=mT 29 (h:= ?_))))));refine mR 26 (h:=fun K hK=> ?_);go_simp;(go_at_call 7;(with_reducible refine(IE (qW.bm HA) HF oJ).mono ?_);rintro e w9 ⟨g',c',rfl,_,hbi,hb⟩;replace HA:=qW.keep HA hb;have k8:=mG (cap:=c') hbi.lie;clear hb)
    refine mK hK (qW.held HA) (h:=fun hHeld=> ?_);clear hK K;refine mR 27 (h:=fun K hK=> ?_);go_simp;refine mK hK (qW.held HA) (h:=fun hHeld=> ?_);clear hK K;refine mT 30 (h:=mT 31 (h:=mT 32 (h:=mT 33 (h:= ?_))));refine wpAnyH_done (by kernel_rfl) ?_ _;refine NoPanic.normal ?_;go_wp2
    go_ret;exact⟨by first|rfl|simp,HA.out.w⟩
  subst h0;have hok:=hd3.resolve_left (fun q=>by have:=q.2.1;cases this);obtain⟨rfl,Vh,qE,_⟩:=hok;obtain rfl:=qE rfl;have hdd:=hd1.resolve_right (fun q=>by have:=q.1;cases this);have wU:Hid (zV x=true):=zH hdd.2.1;have HEX:Hid (Js x=L):=zH hdd.2.2.1;obtain⟨l,hl,hn,ht,_,_,_,_⟩:=(Eo Vh).2 rfl;have dJ:=zH (ht.now hbb);have Qf:Hid (l.length=nb):=zH hn.symm;have oq:=zH hl;have qY:=zH Vh;clear hd1 hd2 hd3 HD aV hbb qE hdd hl hn ht Vh;generalize hg5:w5.heap.size=g5 at HX⊢
  generalize w5.alloc (ze hx x)=w6 at*
  clear hg5;obtain⟨q0,q1,q2,q3,q4,q5,q6⟩:=HM.out.box;obtain⟨p0,p1,p2,p3,p4,p5,p6⟩:=HX.out.box;have kz:=mG (cap:=c2) HB.out.lie;go_upto_region 11 with(go_at_call 10;(with_reducible refine(qc2 (WO HX) (SB _)).mono ?_);rintro e w7 ⟨Ak,nk,ck,ek,rfl,hb,hak⟩;have OM:=zH hak;replace HM:=zH (HM.out.keep hb);replace HX:=zH (HX.out.keep hb);replace HB:=zH (HB.out.keep hb);replace dJ:=zH (dJ.out.now hb);replace HW:=zi HW hb;clear q0 q1 q2 q3 q4 q5 q6 p0 p1 p2 p3 p4 p5 p6 kz;clear hb hak)
  have hek:=qa1 qY.out OM.out;subst hek;obtain⟨l',hl',hn',ht',_,_,_,_⟩:=(Eo OM.out).2 rfl;obtain rfl:=Pb oq.out hl';have HT:=zH ht';have fU:Hid (l.length=nk):=zH hn'.symm;clear hl' hn' ht' OM qY oq;obtain⟨q0,q1,q2,q3,q4,q5,q6⟩:=HM.out.box;obtain⟨p0,p1,p2,p3,p4,p5,p6⟩:=HX.out.box;have kz:=mG (cap:=c2) HB.out.lie;replace HT:=zH (HT.out.now (zb w7.heap.size w7).drew);replace dJ:=zH (dJ.out.now (zb w7.heap.size w7).drew);have HA:=qW.keep (qW.new HM HX HB HW) (zb w7.heap.size w7).drew;clear q0 q1 q2 q3 q4 q5 q6 p0 p1 p2 p3 p4 p5 p6 kz HM HX HB HW;refine wp_region_noPanic ?_;refine wp_region_held_drew (S:=Mi w.heap.size g5 h hx m x A2 c2 L) (by kernel_rfl) (qW.held HA) (fun hHeld=> ?_);refine mR 0 (h:=fun K hK=> ?_);go_simp;(go_at_call 5;(with_reducible refine(Dc _).mono ?_);rintro e w9 ⟨rfl,hb⟩;replace HA:=qW.keep HA hb;replace HT:=zH (HT.out.now hb);replace dJ:=zH (dJ.out.now hb);clear hb)
  refine mK hK (qW.held HA) (h:=fun hHeld=> ?_);clear hK K;refine mT 1 (h:=mT 2 (h:=mT 3 (h:=mT 4 (h:=mT 5 (h:=mT 6 (h:=mT 7 (h:= ?_)))))));refine mR 8 (h:=fun K hK=> ?_);go_simp;(go_at_call 11;(with_reducible refine(q3v (SN HT) (SN dJ) fU Qf).mono ?_);rintro e w9 ⟨rfl,hb⟩;replace HA:=qW.keep HA hb;clear hb)
  refine mK hK (qW.held HA) (h:=fun hHeld=> ?_);clear hK K;refine mT 9 (h:=mT 10 (h:=mT 11 (h:=mT 14 (h:=mT 15 (h:= ?_)))));refine mR 12 (h:=fun K hK=> ?_);go_simp;(go_at_call 7;(with_reducible refine(IE (qW.bx HA) wU HEX).mono ?_);rintro e w9 ⟨g',c',rfl,_,hbi,hb⟩;replace HA:=qW.keep HA hb;have k8:=mG (cap:=c') hbi.lie;clear hb)
  refine mK hK (qW.held HA) (h:=fun hHeld=> ?_);clear hK K;refine mR 13 (h:=fun K hK=> ?_);go_simp;refine mK hK (qW.held HA) (h:=fun hHeld=> ?_);clear hK K;refine mT 16 (h:=mT 17 (h:=mT 18 (h:= ?_)));refine wpAnyH_done (by kernel_rfl) ?_ _;refine NoPanic.normal ?_;go_wp2
  go_ret;exact⟨by first|rfl|simp,HA.out.w⟩
