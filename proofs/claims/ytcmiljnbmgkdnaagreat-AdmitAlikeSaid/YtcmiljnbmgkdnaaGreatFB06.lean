import Derived.Test.YtcmiljnbmgkdnaaGreatFB05
namespace Go.Proofs.YtcmiljnbmgkdnaaGreat
set_option maxRecDepth 100000
set_option linter.unusedVariables false
set_option linter.unusedSimpArgs false
open Go.ChangeShapes Go.WideShapes Go.ChangeAt Go.RowKit
theorem qri{α:Type}{f:Nat→α}{a:Nat}{b:α}(h:f a=b):qe f a b=f:=funext fun x=>by
 unfold qe;split
 ·rename_i e;rw[e,h]
 ·rfl
theorem qo8{P:List (List Nat)}(h:∀c ∈P,c≠ []):P.length≤P.flatten.length:=by
 induction P with
 |nil=>exact zn _
 |cons c P ih=>
  have h1:=ih (fun d hd=>h d (XF _ hd));have h2:0<c.length:=List.length_pos_iff.mpr (h c (XD ..));rw[List.flatten_cons,Xe,XJ];omega
theorem zO.parts_le{EL:List (List Int)}{n:Nat}{S:Wk}(h:zO EL n S):S.parts.length≤n:=Xd (qo8 (fun c hc=>(h.srt c hc).1)) h.lens.2.2
theorem zO.split{EL:List (List Int)}{n:Nat}{S:Wk}(h:zO EL n S){v:Nat}(hv:v ∈S.opn):∃O X,S.opn=O++v::X∧v ∉X∧∀x ∈v::X,x<n:=by
 obtain⟨O,X,e⟩:=List.append_of_mem hv;refine⟨O,X,e,fun q=> ?_,fun x hx=>h.olt x (by rw[e];exact List.mem_append_right _ hx)⟩;have hp:=h.oinc;rw[e,Wh,List.pairwise_cons]at hp;have:=hp.2.1.1 v q;omega
theorem zO.left{EL:List (List Int)}{n:Nat}{S:Wk}(h:zO EL n S){W:List Nat}{v p:Nat}(hw:S.way=W++[p]++[v])(hg:S.gone v=(eds EL v).length)(hb:S.back v<S.place v):
  zO EL n {S with way:=W++[p],back:=qe S.back p (min (S.back p) (S.back v))}:=by
 have hpw:p ∈S.way:=by rw[hw];simp
 have hvw:v ∈S.way:=by rw[hw];simp
 have hpv:S.place p<S.place v:=by
  have hp:=h.winc;rw[hw,Wh]at hp;exact hp.2.2 p (by simp) v (by simp)
 obtain⟨a1,a2,u,hu,a3,a4⟩:=h.bin p (h.wsub p hpw);obtain⟨b1,b2,x,hx,b3,b4⟩:=h.bin v (h.wsub v hvw);have h1:zO EL n (S.lower p (min (S.back p) (S.back v))):=by
  refine h.lower hpw (by omega) (by omega) ?_;by_cases hm:S.back p≤S.back v
  ·rw[show min (S.back p) (S.back v)=S.back p by omega];exact⟨u,hu,a3,a4⟩
  ·rw[show min (S.back p) (S.back v)=S.back v by omega];refine⟨x,hx,b3,?_⟩;have hpx:p=v∨qy EL n p v:=h.tree p hpw v (h.wsub v hvw) (Xh hpv);rcases hpx with rfl|hpx
   ·omega
   ·rcases b4 with rfl|b4
    ·exact .inr hpx
    ·exact .inr (hpx.join (h.olt v (h.wsub v hvw)) b4)
 have hvp:v≠p:=fun e=>by subst e;omega
 have hlast:∀q ∈W,S.place q<S.place p:=fun q hq=>by
  have hp:=h.winc;rw[hw,Xu,Wh]at hp;exact hp.2.2 q hq p (by simp)
 have hbv:(S.lower p (min (S.back p) (S.back v))).back v=S.back v:=Zs _ _ hvp;have h2:=h1.pop (W:=W++[p]) (v:=v) hw hg (by rw[hbv];exact hb) (fun q hq hm=>by
  rw[hbv];rcases Xn.mp hq with hq|hq
  ·have h3:=hm p (by simp);have h3:S.place p≤S.place q:=h3;have:=hlast q hq;omega
  ·rw[XL]at hq;subst hq;have e:(S.lower q (min (S.back q) (S.back v))).back q=min (S.back q) (S.back v):=vW _ _ _;rw[e];omega)
 have e:(S.lower p (min (S.back p) (S.back v))).pop={S with way:=W++[p],back:=qe S.back p (min (S.back p) (S.back v))}:=by
  unfold Wk.pop Wk.lower;dsimp only;rw[hw,List.dropLast_concat]
 rw[e]at h2;exact h2
def qu9(B g:Nat)(EL:List (List Int))(n:Nat)(S:Wk)(W:List Nat)(w:World)(e:Ending)(w':World):Prop:=
 e= .returned (.tuple #[])∧(∃S' a' ρ',zC w' B g EL n S' a' ρ'∧zO EL n S'∧S'.way=W∧S'.place=S.place)∧Below B w w'
set_option maxHeartbeats 3200000 in
theorem qix(B g n v:Nat)(EL:List (List Int))(S:Wk)(W:List Nat)(a:Jg)(ρ:Nat→Nat)(w:World)(h:zC w B g EL n S a ρ)(hT:zO EL n S)(hw:S.way=W++[v])(hg:S.gone v=(eds EL v).length):
  Calls Tryz.prog 154 #[.pointer (some ⟨g,0,none⟩),.int .i64 (v:Int)] w (qu9 B g EL n S W w):=by
 obtain⟨met,place,back,gone,way,opn,parts⟩:=S;obtain⟨gp,gb,gg,E,ce,Ay,cy,Ao,co,Ap,cp,vs⟩:=a;dsimp only at hw hg;subst hw;have hn1:=h.n1;have hge:=h.g_ge;obtain⟨hg0,hg1,hg2,hg3⟩:=hge;have hlen:(W++[v]).length=W.length+1:=by simp
 have hvw:v ∈W++[v]:=by simp
 have hv:v<n:=hT.olt v (hT.wsub v hvw);have hwl:=hT.lens.1;dsimp only at hwl hg1 hg2 hg3;rw[hlen]at hwl;obtain⟨gy,rfl,hc1,hc2,hgy,_⟩:=YT h.way (by dsimp only;rw[hlen];omega);dsimp only at hc1;rw[hlen]at hc1;have q5:=h.blk.cells 5 _ rfl;have f5:=h.blk.free 5;dsimp only at q5;rw[hlen]at q5;have HI:=zH h;have HW1:=zH (h.way_cut (O:=W) (X:=[v]) rfl);have X1:=zH (h.cell_below (zb B w) 5 (.slice (some ⟨gy,0,none⟩) W.length cy));dsimp only at HW1;have HT:=zH hT;have HG:=zH hg;obtain⟨k,hk⟩:∃k,W.length=k:=⟨_,rfl⟩
 rw[hk]at q5 hwl hc1 HW1 X1;have HK:=zH hk;clear h hT hg hk hlen hvw;go_enter Tryz.func154,Tryz.ntmps154;go_wp2_with fail
 go_region
 have HW2:=zH (HW1.out.keep (zb _ _).drew);have X2:=zH X1.out.drew;clear q5 f5 HW1 X1;generalize(w.setCell ⟨g,5,none⟩ (.slice (some ⟨gy,0,none⟩) k cy)).drew=w2 at*
 have q2:=HW2.out.blk.cells 2 _ rfl;have q3:=HW2.out.blk.cells 3 _ rfl;obtain⟨c1,_⟩:=HW2.out.p_at hv;obtain⟨c2,_⟩:=HW2.out.b_at hv;dsimp only at q2 q3 c1 c2;by_cases hbp:back v=(place v:Int)
 ·have hcmp:(back v==(place v:Int))=true:=by simpa using hbp
  go_wp2_with fail
  go_region
  have HW3:=zH (HW2.out.keep (zb _ _).drew);have X3:=zH X2.out.drew;generalize w2.drew=w3 at*
  clear q2 q3 c1 c2 HW2 X2;obtain⟨O,Y,ho,hY,hlt⟩:=HT.out.split (HT.out.wsub v (by simp));have HOE:=zH ho;have hcl:=qj2 B g n v EL _ O Y _ _ w3 HW3.out ho hY hlt HT.out.lens.2.1 HT.out.parts_le;have HCL:=zH hcl;clear hcl ho hY hlt;go_upto_region 3 with(go_at_call 191;go_loud (refine HCL.out.mono ?_);rintro e w4 ⟨rfl,⟨c,a4,ρ4,hp,hpw,h4⟩,hb⟩;have HP:=zH hp;have HPW:=zH hpw;have HW4:=zH h4;have X4:=zH (X3.out.trans hb);clear hp hpw h4 hb)
  clear HCL HW3 X3;have HT4:Hid (zO EL n ⟨met,place,fun x=>if x ∈v::Y then jL else back x,gone,W,O,parts++[c]⟩):=zH (by
   have:=HT.out.close (W:=W) (O:=O) (X:=Y) (c:=c) (v:=v) rfl HOE.out HG.out hbp HP.out HPW.out;unfold Wk.close at this;dsimp only at this;rw[List.dropLast_concat]at this;exact this)
  obtain⟨gp4,gb4,gg4,E4,ce4,Ay4,cy4,Ao4,co4,Ap4,cp4,vs4⟩:=a4;try dsimp only at HW4
  have q5:=HW4.out.blk.cells 5 _ rfl;have q3:=HW4.out.blk.cells 3 _ rfl;dsimp only at q5 q3;rw[HK.out]at q5;rcases List.eq_nil_or_concat W with hW|⟨W',p,hW⟩
  ·have hk0:k=0:=by rw[←HK.out,hW];rfl
   have HWE:=zH hW;subst hk0;clear hW;go_wp2_with fail
   go_end0
   exact⟨rfl,⟨_,_,_,HW4.out,HT4.out,rfl,rfl⟩,X4.out⟩
  ·have hk0:k=W'.length+1:=by rw[←HK.out,hW];simp
   rw[List.concat_eq_append]at hW;have HWE:=zH hW;have hpw:p ∈W:=by rw[hW];simp
   have hpn:p<n:=HT4.out.olt p (HT4.out.wsub p hpw);obtain⟨k',hk'⟩:∃z,W'.length=z:=⟨_,rfl⟩
   rw[hk']at hk0;obtain⟨gy4,hy4,_,_,_,_⟩:=YT HW4.out.way (by show 0<W.length;rw[HK.out];omega);dsimp only at hy4;have hrow:w4.ownsRow B 3 1 (.slice Ay4 W.length cy4) W.length (zQ W):=HW4.out.way;subst hy4;have cw:=YU hrow (Ya (l:=W) (j:=k') (v:=p) (by rw[hW,←hk'];simp));obtain⟨cp',fp'⟩:=HW4.out.b_at hpn;obtain⟨cv,_⟩:=HW4.out.b_at hv;dsimp only at cp' fp' cv;have hpY:p ∉v::Y:=fun q=>(HT4.out.clt p (by rw[List.flatten_append];exact List.mem_append_right _ (by simpa using HP.out.mem_iff.mpr q))).2.2.1 (HT4.out.wsub p hpw);rw[Xa hpY]at cp';rw[Xb (XD ..)]at cv;have hpb:=(HT4.out.bin p (HT4.out.wsub p hpw)).2.1;have hpp:=(HT4.out.opos p (HT4.out.wsub p hpw)).2;have hmet:=HT.out.met_le;dsimp only at hpb hpp hmet;rw[Xa hpY]at hpb;have hbt:back p≤9223372036854775807:=by omega
   have HPY:=zH hpY;subst hk0;clear hW hpw hk' hrow hpb hpp hmet hpY;go_upto_region 4 with fail
   go_region
   go_upto_region 5 with fail
   go_region
   have HW5:=(HW4.out.back (v:=p) (k:=min (back p) jL)).keep (zb _ _).drew.drew;have e:qe (fun x=>if x ∈v::Y then jL else back x) p (min (back p) jL)=fun x=>if x ∈v::Y then jL else back x:=qri (by rw[Xa HPY.out];show back p=min (back p) 9223372036854775807;omega)
   dsimp only at HW5;rw[e]at HW5;go_end0
   exact⟨rfl,⟨_,_,_,HW5,HT4.out,rfl,rfl⟩,(X4.out.setCell (p:=⟨gb4,p,none⟩) HW4.out.g_ge.2.2.1 _).drew.drew⟩
 ·have hcmp:(back v==(place v:Int))=false:=by simpa using hbp
  have hbl:back v<(place v:Int):=by
   have h1:=(HT.out.bin v (HT.out.wsub v (by simp))).2.1;dsimp only at h1;omega
  have q5:=HW2.out.blk.cells 5 _ rfl;dsimp only at q5;rw[HK.out]at q5;rcases List.eq_nil_or_concat W with hW|⟨W',p,hW⟩
  ·have hk0:k=0:=by rw[←HK.out,hW];rfl
   have HTP:Hid (zO EL n ⟨met,place,back,gone,W,opn,parts⟩):=zH (by
    have:=HT.out.pop (W:=W) (v:=v) rfl HG.out hbl (fun p hp=>by rw[hW]at hp;cases hp);unfold Wk.pop at this;dsimp only at this;rw[List.dropLast_concat]at this;exact this)
   subst hk0;clear hW;go_wp2_with fail
   go_region
   go_wp2_with fail
   go_end0
   exact⟨rfl,⟨_,_,_,HW2.out.keep (zb _ _).drew,HTP.out,rfl,rfl⟩,X2.out.drew⟩
  ·have hk0:k=W'.length+1:=by rw[←HK.out,hW];simp
   rw[List.concat_eq_append]at hW;have hpw:p ∈W++[v]:=by rw[hW];simp
   have hpn:p<n:=HT.out.olt p (HT.out.wsub p hpw);obtain⟨k',hk'⟩:∃z,W'.length=z:=⟨_,rfl⟩
   rw[hk']at hk0;have hrow:w2.ownsRow B 3 1 (.slice (some ⟨gy,0,none⟩) W.length cy) W.length (zQ W):=HW2.out.way;have cw:=YU hrow (Ya (l:=W) (j:=k') (v:=p) (by rw[hW,←hk'];simp));obtain⟨cp',fp'⟩:=HW2.out.b_at hpn;dsimp only at cp' fp';have HTL:Hid (zO EL n ⟨met,place,qe back p (min (back p) (back v)),gone,W,opn,parts⟩):=zH (by
    have:=HT.out.left (W:=W') (v:=v) (p:=p) (by rw[hW]) HG.out hbl;dsimp only at this;rw[←hW]at this;exact this)
   subst hk0;clear hW hpw hk' hrow;go_wp2_with fail
   go_region
   go_upto_region 4 with fail
   go_region
   go_upto_region 5 with fail
   go_region
   have HW5:=(HW2.out.back (v:=p) (k:=min (back p) (back v))).keep (zb _ _).drew.drew.drew;go_end0
   exact⟨rfl,⟨_,_,_,HW5,HTL.out,rfl,rfl⟩,(X2.out.setCell (p:=⟨gb,p,none⟩) hg2 _).drew.drew.drew⟩
end Go.Proofs.YtcmiljnbmgkdnaaGreat
