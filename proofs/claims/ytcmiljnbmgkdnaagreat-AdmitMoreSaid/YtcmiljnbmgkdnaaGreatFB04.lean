import Derived.Test.YtcmiljnbmgkdnaaGreatFB03
import Derived.OneCell
namespace Go.Proofs.YtcmiljnbmgkdnaaGreat
set_option maxRecDepth 100000
set_option linter.unusedVariables false
set_option linter.unusedSimpArgs false
open Go.ChangeShapes Go.WideShapes Go.ChangeAt Go.RowKit
def JI:List Int:=[1,3,4,18,19,22,23,29,30,31,34]
def zM(op:Int):Int:=if op<1∨34<op then -1 else if op ∈JI then 1 else if op=27∨op=28∨op=32 then 2 else 0
theorem qd5(w:World)(T:TypeId):zq (w.alloc (.cells (JI.map (Value.int .i64)).toArray T)) (w.heap.size+1) (some ⟨w.heap.size,0,none⟩) (JI.map (Value.int .i64)):=by
 intro j u hj;refine⟨_,rfl,by simp,?_⟩;have e:(Addr.add ⟨w.heap.size,0,none⟩ j)=⟨w.heap.size,j,none⟩:=by
  unfold Addr.add;split
  ·rename_i h0;subst h0;rfl
  ·simp
 rw[e,World.cell?_alloc_at _ _ _ _ rfl];rw[List.getElem?_toArray];exact hj
theorem q8n{P:Prop}(h:P:=by
 go_enter Tryz.func42,Tryz.ntmps42;go_wp2_with(go_at_call 66;refine(q05 JI op _ 11 _ _ (by decide) (qd5 w 3)).mono ?_;rintro e w' ⟨he,rfl⟩;rw[HI.out]at he;subst he)
 go_ret;exact⟨by rw[E.out];rfl,(zb _ _).alloc (zn _) _⟩):P:=h
set_option maxHeartbeats 1600000 in
theorem qb6(op:Int)(w:World):Calls Tryz.prog 42 #[.int .i64 op] w fun e w'=>e= .returned (.int .i64 (zM op))∧Below w.heap.size w w':=by
 by_cases h:op<1∨34<op
 ·have E:=zH (show zM op= -1 by unfold zM;rw[Xb h]);rcases h with h|h
  ·go_enter Tryz.func42,Tryz.ntmps42;go_wp2
   go_ret;exact⟨by rw[E.out];rfl,(zb _ _).alloc (zn _) _⟩
  ·have h':¬op<1:=by omega
   go_enter Tryz.func42,Tryz.ntmps42;go_wp2
   go_ret;exact⟨by rw[E.out];rfl,(zb _ _).alloc (zn _) _⟩
 ·have h0:¬op<1:=by omega
  have h1:¬34<op:=by omega
  by_cases h2:op ∈JI
  ·have E:=zH (show zM op=1 by unfold zM;rw[Xa h,Xb h2]);have HI:=zH (show zX JI op=true from Xm h2);clear h h2;exact q8n
  ·have HI:=zH (show zX JI op=false from Xg h2);by_cases h3:op=27∨op=28∨op=32
   ·have E:=zH (show zM op=2 by unfold zM;rw[Xa h,Xa h2,Xb h3]);clear h h2;rcases h3 with rfl|rfl|rfl;all_goals
     go_enter Tryz.func42,Tryz.ntmps42;go_wp2_with(go_at_call 66;refine(q05 JI _ _ 11 _ _ (by decide) (qd5 w 3)).mono ?_;rintro e w' ⟨he,rfl⟩;rw[HI.out]at he;subst he)
     go_ret;exact⟨by rw[E.out];rfl,(zb _ _).alloc (zn _) _⟩
   ·have E:=zH (show zM op=0 by unfold zM;rw[Xa h,Xa h2,Xa h3]);have d1:(op==27)=false:=XG.mpr (fun g=>h3 (.inl g));have d2:(op==28)=false:=XG.mpr (fun g=>h3 (.inr (.inl g)));have d3:(op==32)=false:=XG.mpr (fun g=>h3 (.inr (.inr g)));clear h h2;exact q8n
theorem qp6{w w1:World}{x y z:Value}{T:TypeId}(hb:Below (w.alloc (.cells #[x,y,z] T)).heap.size (w.alloc (.cells #[x,y,z] T)) w1):
  w1.cell? ⟨w.heap.size,0,none⟩=some x∧w1.cell? ⟨w.heap.size,1,none⟩=some y∧w1.cell? ⟨w.heap.size,2,none⟩=some z:=by
 have hs:w.heap.size<(w.alloc (.cells #[x,y,z] T)).heap.size:=by simp
 refine⟨(hb.cell hs).trans ?_,(hb.cell hs).trans ?_,(hb.cell hs).trans ?_⟩<;>(rw[World.cell?_alloc_at _ _ _ _ rfl];rfl)
abbrev zF(op a b:Int):Value:= .agg #[.int .i64 op,.int .i64 a,.int .i64 b]
def qf(op a b:Int):Bool:=decide (0≤zM op∧(1≤zM op∨a=0)∧(2≤zM op∨b=0)∧0≤a∧a≤255∧0≤b∧b≤255)
theorem YI(op:Int): -1≤zM op∧zM op≤2:=by
 unfold zM;split
 ·omega
 ·split
  ·omega
  ·split<;>omega
theorem qev(op:Int):0≤zM op↔1≤op∧op≤34:=by
 unfold zM;split
 ·omega
 ·split
  ·omega
  ·split<;>omega
theorem VO{op a b:Int}:qf op a b=true↔0≤zM op∧(1≤zM op∨a=0)∧(2≤zM op∨b=0)∧0≤a∧a≤255∧0≤b∧b≤255:=by unfold qf;simp
theorem Qr{op a b:Int}(h:qf op a b=true):1≤op∧op≤34∧0≤a∧a≤255∧0≤b∧b≤255:=by
 have h:=VO.mp h;have:=(qev op).mp h.1;omega
set_option maxHeartbeats 1600000 in
theorem qjg(m:za)(c:Int)(h:zi)(w:World)(H:zm w w.heap.size h m)(hn:m.classes.length≤1000):
  Calls Tryz.prog 72 #[zp h m,.int .i64 c] w (vl (Zr m.classes c) w):=by
 obtain⟨i0,hi,hz0,hz1,hz2⟩:=info_parts vT;have HW:=zH ((zb w.heap.size w).alloc (zn _) (zg h m));have HIM:=zH (H.now HW.out);have HBX:=zH (ql w h m);have HZ:Hid (w.heap.size<(w.alloc (zg h m)).heap.size):=zH (by simp);have HS:=zH (JP HIM.out.classes.row);have hsl:(zz m.classes).length=m.classes.length:=kq _;have hle:=H.classes.le;have hcap:=H.classes.cap;have HE:=zH (show Zr m.classes c=qP (zz m.classes) c m.classes.length from rfl);obtain⟨sup,hsup⟩:∃sup,zz m.classes=sup:=⟨_,rfl⟩
 rw[hsup]at hsl HS HE;have HSl:=zH hsl;clear hsl hsup H;go_enter Tryz.func72,Tryz.ntmps72;go_upto_region 1 with fail
 generalize w.alloc (zg h m)=w1 at*
 go_wp2
 go_loopw [5,6] (fun v i wr=>∃k:Nat,k≤m.classes.length∧i= .int .i64 k∧Hid (wr.ownsRow w1.heap.size 3 1 v (qP sup c k).length ((qP sup c k).map (Value.int .i64)))∧Hid (Below w1.heap.size w1 wr)) (fun _ i _=>m.classes.length - (intOf i).toNat)
 case atStart=>exact⟨0,Xp _,rfl,zH (VN w1 _),zH ((zb _ _).alloc (zn _) _)⟩
 case round=>
  obtain⟨k,hk,rfl,HO,HX⟩:=hrel;obtain⟨q0,q1,q2,q3,q4,q5,q6⟩:=HBX.out.keep HX.out HZ.out;have hbl:=VE sup c k;by_cases hlt:k<m.classes.length
  ·obtain⟨b,hb⟩:∃b,zX (zv sup k) c=b:=⟨_,rfl⟩
   have HST:=zH (show qP sup c (k+1)=if b=true then qP sup c k++[(k:Int)]else qP sup c k by rw[←hb];rfl);obtain⟨U,hU⟩:∃U,zv sup k=U:=⟨_,rfl⟩
   have hUl:U.length≤9223372036854775807:=by rw[←hU];have:=q10 sup k;have:=HSl.out;omega
   have HU:=zH hU;rw[hU]at hb;have HB:=zH hb;clear hU hb;have HSr:=zH ((HS.out.below_to HX.out (zn _)):qY wr w1.heap.size h.A0 sup);generalize qP sup c k=L at*
   have hsz:=HX.out.size;have HSw:Hid (qY wr wr.heap.size h.A0 sup):=zH (fun i s hs=>by obtain⟨ad,e,a0,a1⟩:=HSr.out i s hs;exact⟨ad,e,Xj a0 hsz,a1⟩);have hn':m.classes.length≤1048576:=by omega
   cases b
   ·have e1:qP sup c (k+1)=L:=HST.out;have HST1:=zH e1;clear e1 HST;go_wp2_with(first
     |(go_at_call 71;(with_reducible refine(q5e HSl hn' HU HSw).mono ?_);rintro e w2 ⟨v2,rfl,ho,hb⟩;have HX2:=zH (HX.out.trans (hb.mono hsz));have HO2:=zH (zT HO.out hb (zL HO.out));obtain⟨A2,c2,rfl,hl2,g1,g2⟩:=kO ho;have HL2:=zH hl2;have hsz2:=HX2.out.size;clear hb ho hl2)
     |(go_at_call 66;(with_reducible refine(q05 _ _ _ _ _ _ hUl HL2.out).mono ?_);rintro e w' ⟨he,rfl⟩;rw[HB.out]at he;subst he;obtain⟨q0,q1,q2,q3,q4,q5,q6⟩:=HBX.out.keep HX2.out HZ.out))
    go_roundw;case rel=>exact⟨k+1,by omega,by go_num,zH (by rw[HST1.out];exact HO2.out),HX2⟩
    case measure=>simp[intOf];omega
   ·have e1:qP sup c (k+1)=L++[(k:Int)]:=HST.out;have HST1:=zH e1;clear e1 HST;go_wp2_with(first
     |(go_at_call 71;(with_reducible refine(q5e HSl hn' HU HSw).mono ?_);rintro e w2 ⟨v2,rfl,ho,hb⟩;have HX2:=zH (HX.out.trans (hb.mono hsz));have HO2:=zH (zT HO.out hb (zL HO.out));obtain⟨A2,c2,rfl,hl2,g1,g2⟩:=kO ho;have HL2:=zH hl2;have hsz2:=HX2.out.size;clear hb ho hl2)
     |(go_at_call 66;(with_reducible refine(q05 _ _ _ _ _ _ hUl HL2.out).mono ?_);rintro e w' ⟨he,rfl⟩;rw[HB.out]at he;subst he;obtain⟨q0,q1,q2,q3,q4,q5,q6⟩:=HBX.out.keep HX2.out HZ.out)
     |(at_builtin;refine wpList_append_own _ rfl _ _ 26 rfl w1.heap.size 3 i0 (.int .i64 0) 1 8 Tryz.underlying26 hi hz0 hz1 hz2 rfl (by decide) _ _ _ rfl (HO2.out.alloc _) ⟨_,0,none⟩ 1 1 [.int .i64 (k:Int)] rfl rfl (q1m _ _) (q1e _) (by unfold maxLen;omega) (by omega) (by simp;omega) ?_;intro v' w3 hown' hgrow _;have hR:=YD HO2.out hsz2 HX2.out hown' hgrow;have HO3:=zH hR.1;have HX3:=zH hR.2;clear hown' hgrow hR))
    go_roundw;case rel=>exact⟨k+1,by omega,by go_num,zH (by rw[HST1.out];exact HO3.out),HX3⟩
    case measure=>simp[intOf];omega
  ·obtain rfl:k=m.classes.length:=by omega
   go_wp2_with fail
   go_ret;refine⟨_,rfl,?_,HW.out.trans (HX.out.mono HW.out.size)⟩;rw[HE.out];exact ja HO.out HW.out.size
section
variable{m:za}{h:zi}{w0 w:World}{c:Int}
theorem qnx{L:List Int}(HI:Hid (zm w0 w0.heap.size h m))(HX:Hid (Below w0.heap.size w0 w))(HL:Hid (Zr m.classes c=L))(hn:m.classes.length≤1000):
  Calls Tryz.prog 72 #[zp h m,.int .i64 c] w (vl L w):=by
 have H:=qjg m c h w (HI.out.now HX.out) hn;rw[HL.out]at H;exact H
end
structure RuleBox(w1:World)(N:Nat)(h:zi)(m:za)(op a b:Int):Prop where
 img:Zy w1 N h m
 ins:zW w1 (N+1) [.int .i64 op,.int .i64 a,.int .i64 b]
 t1:zW w1 (N+1+1) [.int .i64 1,.int .i64 0]
 t2:zW w1 (N+1+1+1) [.int .i64 2,.int .i64 0]
 t4:zW w1 (N+1+1+1+1) [.int .i64 4,.int .i64 0]
 t0:zW w1 (N+1+1+1+1+1) [.int .i64 0,.int .i64 0]
 t3:zW w1 (N+1+1+1+1+1+1) [.int .i64 3,.int .i64 a]
 size:w1.heap.size=N+1+1+1+1+1+1+1
theorem Vk{w:World}{g:Nat}{x y:Int}(hg:g<w.heap.size)(h0:w.cell? ⟨g,0,none⟩=some (.int .i64 x))(h1:w.cell? ⟨g,1,none⟩=some (.int .i64 y)):ze zc 2 w w.heap.size (some ⟨g,0,none⟩) 1 [(x,y)]:=
 ⟨zn _,by show 1≤9223372036854775807;omega,qec ⟨h0,h1⟩ hg⟩
theorem qnn{L:List Nat}{ad:Addr}{c B:Nat}{w:World}{k:Nat}(h:Hid (zq w B (some ad) (zQ L)))(hB:Hid (B≤w.heap.size))(h0:Hid (0<L.length))(hl:Hid (L.length≤1048576))(hk:Hid (L.length=k)):
  Calls Tryz.prog 205 #[.slice (some ad) k c] w fun e w'=>∃gi ci,e= .returned (.slice (some ⟨gi,0,none⟩) k ci)∧w.heap.size≤gi∧w'.ownsRow w.heap.size 3 1 (.slice (some ⟨gi,0,none⟩) k ci) k (zQ L)∧Below w.heap.size w w':=by
 obtain rfl:=hk.out;exact qj3 L ad c B w h.out hB.out h0.out hl.out
theorem qkj:(Tryz.prog.info? 26).map (fun i=>(i.zero,i.size,i.bytes))=some (some (.slice none 0 0),1,24):=by kernel_rfl
def qub(B g:Nat)(EL:List (List Int))(n:Nat)(S:Wk)(O X:List Nat)(w:World)(e:Ending)(w':World):Prop:=
 e= .returned (.tuple #[])∧(∃c a' ρ',c.Perm X∧c.Pairwise (· ≤ ·)∧zC w' B g EL n {S with opn:=O,back:=fun x=>if x ∈X then jL else S.back x,parts:=S.parts++[c]} a' ρ')∧Below B w w'
theorem qn6{L:List Nat}{t:Nat}(ht:t<L.length)(f:Nat→Int):qe (fun x=>if x ∈L.take t then jL else f x) L[t] jL=fun x=>if x ∈L.take (t+1)then jL else f x:=funext fun x=>by
 have e1:L.take (t+1)=L.take t++[L[t]]:=by rw[XH,Xc ht];rfl
 rw[e1];unfold qe;by_cases e:x=L[t]
 ·rw[Xb e,Xb (by rw[Xn,XL];exact .inr e)]
 ·rw[Xa e];show(if x ∈L.take t then jL else f x)=_;by_cases q:x ∈L.take t
  ·rw[Xb q,Xb (List.mem_append_left _ q)]
  ·rw[Xa q,Xa (by rw[Xn,XL];exact fun r=>r.elim q e)]
set_option maxHeartbeats 3200000 in
theorem qj2(B g n v:Nat)(EL:List (List Int))(S:Wk)(O X:List Nat)(a:Jg)(ρ:Nat→Nat)(w:World)(h:zC w B g EL n S a ρ)(ho:S.opn=O++v::X)(hX:v ∉X)(hlt:∀x ∈v::X,x<n)(hol:S.opn.length≤n)(hpl:S.parts.length≤n):
  Calls Tryz.prog 191 #[.pointer (some ⟨g,0,none⟩),.int .i64 (v:Int)] w (qub B g EL n S O (v::X) w):=by
 obtain⟨met,place,back,gone,way,opn,parts⟩:=S;obtain⟨gp,gb,gg,E,ce,Ay,cy,Ao,co,Ap,cp,vs⟩:=a;dsimp only at ho hol hpl;subst ho;have hn1:=h.n1;have hge:=h.g_ge;obtain⟨hg0,hg1,hg2,hg3⟩:=hge;have hoo:w.ownsRow B 3 1 (.slice Ao (O++v::X).length co) (O++v::X).length (zQ (O++v::X)):=h.opn;have hlen:(O++v::X).length=O.length+X.length+1:=by simp;omega
 obtain⟨go,rfl,hc1,hc2,hgo,_⟩:=YT hoo (by omega);have HI:=zH h;have HOO:=zH hoo;have q6:=h.blk.cells 6 _ rfl;dsimp only at q6 hg1 hg2 hg3;rw[hlen]at q6 hol hc1;have HLE:=zH hlen;obtain⟨k,hk⟩:∃k,O.length=k:=⟨_,rfl⟩
 obtain⟨j,hj⟩:∃j,X.length=j:=⟨_,rfl⟩
 rw[hk,hj]at q6 hol hc1;have HK:=zH hk;have HJ:=zH hj;have HLT:=zH hlt;have HXN:=zH hX;have hv:v<n:=hlt v (XD ..);clear h hoo hlen hk hj hX hlt;go_enter Tryz.func191,Tryz.ntmps191;go_wp2_with fail
 go_loopw [4] (fun i wr=>∃t:Nat,t≤j∧i= .int .i64 ((k+t:Nat):Int)∧wr=w) (fun i _=>(intOf i).toNat)
 case atStart=>exact⟨j,zn _,by go_num,rfl⟩
 case round=>
  obtain⟨t,ht,rfl,hww⟩:=hrel;obtain rfl:=hww.symm;obtain⟨m,hm⟩:∃m,k+t=m:=⟨_,rfl⟩
  rw[hm];cases t with
  |succ s=>
   have hs:s<X.length:=by rw[HJ.out];omega
   obtain⟨y,hy⟩:∃y,X[s]=y:=⟨_,rfl⟩
   have hc:=YU HOO.out (Ya (l:=O++v::X) (j:=m) (v:=y) (by rw[XP (by rw[HK.out];omega),HK.out,show m - k=s+1 by omega,List.getElem?_cons_succ,Xc hs,hy]));have hne:y≠v:=fun e=>HXN.out (by rw[←e,←hy];exact Xf hs);have hne2:((y:Int) !=(v:Int))=true:=by simp;omega
   clear hy hne;go_wp2_with fail
   go_roundw;case rel=>exact⟨s,by omega,by go_num,by first|rfl|trivial⟩
   case measure=>simp[intOf];omega
  |zero=>
   obtain rfl:k=m:=by omega
   have hc:=YU HOO.out (Ya (l:=O++v::X) (j:=k) (v:=v) (by rw[XP (by rw[HK.out];exact zn _),HK.out,Nat.sub_self];rfl));have hne2:((v:Int) !=(v:Int))=false:=by simp
   have HT:Hid (zq w w.heap.size (some ⟨go,k,none⟩) (zQ (v::X))):=zH (by
    have:=(zq.of_own HOO.out).drop_ k;rw[←qon,←HK.out,List.drop_left,HK.out]at this;have e:(⟨go,0,none⟩:Addr).add k=⟨go,k,none⟩:=by unfold Addr.add;split<;>simp_all
    rw[←e];exact this)
   have HLL:Hid ((v::X).length=k+j+1 - k):=zH (by simp[HJ.out];omega);have HL0:Hid (0<(v::X).length):=zH (by simp);have HL1:Hid ((v::X).length≤1048576):=zH (by rw[HLL.out];omega);have HWZ:Hid (w.heap.size≤w.heap.size):=zH (zn _);have hck:¬co=k:=by omega
   clear hm ht;go_upto_region 4 with(go_at_call 205;go_loud (refine(qnn HT HWZ HL0 HL1 HLL).mono ?_);rintro e w2 ⟨gi,ci,rfl,hgi,hown,hb⟩;have HGI:=zH hgi;have HO2:=zH hown;have HB2:=zH hb;clear hgi hown hb)
   have hj1:k+j+1 - k=j+1:=by omega
   rw[hj1]at HO2;rw[hj1];have HLJ:Hid ((v::X).length=j+1):=zH (by rw[HLL.out,hj1]);have HF2:=zH (HI.out.fresh HB2.out HGI.out);have q6':=HF2.out.blk.cells 6 _ rfl;have f6':=HF2.out.blk.free 6;have HC3:=zH (HF2.out.opn_cut (O:=O) (X:=v::X) rfl);dsimp only at q6' HC3;rw[HLE.out,HK.out,HJ.out]at q6';rw[HK.out]at HC3;have X3:=zH (HF2.out.cell_below (HB2.out.mono HI.out.size) 6 (.slice (some ⟨go,0,none⟩) k co));have HR8:Hid (qe ρ gi 8 gi=8):=zH (vW _ _ _);have HO3:=zH (kw HO2.out (qo.cell (ρ:=qe ρ gi 8) (a:=⟨g,6,none⟩) HF2.out.r0 (.slice (some ⟨go,0,none⟩) k co)) (fun b hb=>by
    have e:gi=b:=by simpa[Value.ownBlock]using hb
    subst e;rw[HR8.out];decide))
   clear hc hne2 HT HLL HL0 HL1 hck q6;go_upto_region 5 with fail
   clear q6' f6' HF2 HB2 HO2;generalize w2.setCell ⟨g,6,none⟩ (.slice (some ⟨go,0,none⟩) k co)=w3 at*
   generalize qe ρ gi 8=ρ2 at*
   obtain⟨L,hL⟩:∃L,v::X=L:=⟨_,rfl⟩
   rw[hL]at HLT HO3 HLJ⊢
   have HXL:=zH hL;clear hL;go_wp2_with fail
   go_loopw [43] (fun i wi=>∃t:Nat,t≤j+1∧i= .int .i64 t∧Hid (zC wi B g EL n ⟨met,place,fun x=>if x ∈L.take t then jL else back x,gone,way,O,parts⟩ ⟨gp,gb,gg,E,ce,Ay,cy,some ⟨go,0,none⟩,co,Ap,cp,vs⟩ ρ2)∧Hid (wi.ownsRow w.heap.size 3 1 (.slice (some ⟨gi,0,none⟩) (j+1) ci) (j+1) (zQ L))∧Hid (Below B w wi)) (fun i _=>j+1 - (intOf i).toNat)
   case atStart=>exact⟨0,Xp _,rfl,HC3,HO3,X3⟩
   case round=>
    clear HC3 HO3 X3;obtain⟨t,ht,rfl,HW,HO,HX⟩:=hrel;by_cases htj:t<j+1
    ·have htl:t<L.length:=by rw[HLJ.out];exact htj
     have HTB:=zH (qn6 htl back);have hx:=HLT.out _ (Xf htl);have hc:=YU HO.out (Ya (l:=L) (j:=t) (v:=L[t]) (Xc htl));generalize L[t]=x at*
     have q3:=HW.out.blk.cells 3 _ rfl;obtain⟨c3,f3⟩:=HW.out.b_at hx;have H4:=zH (HW.out.back (v:=x) (k:=jL));dsimp only at q3 c3 f3 H4;rw[HTB.out]at H4;have HO4:=zH (kw HO.out (qo.cell (ρ:=ρ2) (a:=⟨gb,x,none⟩) HW.out.r2 (.int .i64 jL)) (fun b hb=>by
      have e:gi=b:=by simpa[Value.ownBlock]using hb
      subst e;rw[HR8.out];decide))
     have X4:=zH (HX.out.setCell (p:=⟨gb,x,none⟩) hg2 (.int .i64 jL));clear htl;go_wp2_with fail
     go_roundw;case rel=>exact⟨t+1,by omega,by go_num,H4,HO4,X4⟩
     case measure=>simp[intOf];omega
    ·obtain rfl:t=j+1:=by omega
     rw[←HLJ.out,XU]at HW;have hsort:=qnc L w.heap.size gi ci wr (by rw[HLJ.out];exact HO.out) (by rw[HLJ.out];omega);rw[HLJ.out]at hsort;have HS:=zH hsort;clear hsort htj;obtain⟨C,hC⟩:∃C,(L.mergeSort fun x y=>decide (x≤y))=C:=⟨_,rfl⟩
     have hok:=quk L;rw[hC]at hok HS;have HP:=zH hok.1;have HPW:=zH hok.2;have HCL:Hid (C.length=j+1):=zH (by rw[hok.1.length_eq,HLJ.out]);clear hok hC;have hgiB:B≤gi:=Xd HI.out.size HGI.out;go_upto_region 11 with(go_at_call 190;go_loud (refine HS.out.mono ?_);rintro e w5 ⟨rfl,hown,hg⟩;have HW5:=zH ((HW.out.sorted HR8.out hg).settled HR8.out);have HO5:=zH hown;have X5:=zH (HX.out.grown hg HW.out.size (fun b e=>by injection e with e;subst e;exact hgiB));clear hown hg)
     have HPI:Hid (Yg w5 B (qe ρ2 gi 7) (.slice (some ⟨gi,0,none⟩) (j+1) ci) C):=zH (by
      obtain⟨g',c',rest,e1,_,hwh⟩:=qbd HO5.out (Nat.succ_pos _);injection e1 with e1 e2 e3;injection e1 with e1;injection e1 with e1;subst e1;obtain⟨_,_,hl1,hl2,_,_⟩:=YT HO5.out (Nat.succ_pos _);exact⟨gi,ci,rest,by rw[HCL.out],hgiB,vW _ _ _,by rw[HCL.out];exact hl1,hl2,hwh⟩)
     clear HW HO HX HS HO5;have q7:=HW5.out.blk.cells 7 _ rfl;dsimp only at q7;have HY:Hid (w5.ownsRow B 26 1 (.slice Ap parts.length cp) parts.length vs):=zH HW5.out.prt;have hz5:=HW5.out.size;obtain⟨i1,hi1,hy0,hy1,hy2⟩:=info_parts qkj;go_wp2_with(at_builtin;go_loud (refine wpList_append_lies _ rfl _ _ 56 rfl B 26 i1 (.slice none 0 0) 1 24 Tryz.underlying56 hi1 hy0 hy1 hy2 rfl (by decide) _ _ _ rfl (HY.out.alloc _) ⟨_,0,none⟩ 1 1 [.slice (some ⟨gi,0,none⟩) (j+1) ci] rfl rfl (q7i _ _ _) (JR rfl) (by decide) (by unfold maxLen;omega) (by omega) (by simp;omega) _ rfl ?_);intro g9 c9 w9 hown hgrow hor hlt9;have hb9:=vQ HW5.out.blk (q03 HW5.out.r6 hgrow) (by rw[HW5.out.r0];decide);have q7':=hb9.cells 7 _ rfl;have f7':=hb9.free 7;have HA:=zH (HW5.out.prt_app HPI.out hown hgrow hor);clear hown hgrow hor hlt9 hb9;dsimp only at q7')
     go_end0
     obtain rfl:=HXL.out;exact⟨rfl,⟨C,_,_,HP.out,HPW.out,HA.out.1⟩,X5.out.trans HA.out.2⟩
open Go.ChangeShapes Go.WideShapes Go.ChangeAt Go.RowKit Go.Shelf
attribute [local go_sem] Oper.semAt_some
theorem qjy{w:World}{base e n c:Nat}{A:Option Addr}{xs:List Value}(h:w.ownsRow base e 1 (.slice A n c) n xs):q0h w base w.heap.size A xs:=fun j u hu=>by
 obtain⟨ad,e,hb,hc⟩:=zq.of_own h j u hu;refine⟨ad,e,?_,hb,hc⟩;rcases h.2 with⟨h0,_⟩|⟨g,cap,cur,hv,hg,_⟩
 ·injection h0 with h0;rw[h0]at e;cases e
 ·injection hv with hv;rw[hv]at e;injection e with e;rw[←e];exact hg
theorem qrf{cl:List zJ}{c:Int}{U:List Int}{A:Option Addr}{cap:Nat}{w:World}(hn:cl.length≤1048576)(HU:Hid (zv (zz cl) c=U))(h:ze qj 3 w w.heap.size A cap cl):
  Calls Tryz.prog 208 #[.slice A cl.length cap,.int .i64 c] w (vl U w):=by
 have H:=qms cl c A cap w hn h;rw[HU.out]at H;exact H
def jB(N g:Nat)(A B:World):Prop:=A.heap.size≤B.heap.size∧∀b,b<N→b≠g→B.heap[b]? =A.heap[b]?
theorem jB.refl(N g:Nat)(A:World):jB N g A A:=⟨zn _,fun _ _ _=>rfl⟩
theorem jB.trans{N g:Nat}{A B C:World}(h:jB N g A B)(h':jB N g B C):jB N g A C:=⟨Xd h.1 h'.1,fun b b0 b1=>(h'.2 b b0 b1).trans (h.2 b b0 b1)⟩
theorem jB.cell{N g:Nat}{A B:World}(h:jB N g A B){p:Addr}(h0:p.block<N)(h1:p.block≠g):B.cell? p=A.cell? p:=by
 unfold World.cell?;rw[h.2 _ h0 h1]
theorem jB.kept{N g:Nat}{A B:World}(h:jB N g A B):Kept (g+1) N A B:=fun q q0 q1=>h.cell q1 (by omega)
theorem jB.putObj{N g:Nat}{A:World}{l:Nat}{o:Obj}(hl:N≤l):jB N g A (A.putObj l o):=
 ⟨by simp,fun b b0 _=>World.putObj_heap_other (by omega)⟩
theorem jB.grown{N g:Nat}{A B C:World}{row:Option Nat}(h:jB N g A B)(hg:B.grownBy C row)(hN:N≤B.heap.size)(hr:∀r,row=some r→N≤r∨r=g):jB N g A C:=
 ⟨Xd h.1 hg.size,fun b b0 b1=>(hg.block b (by omega) (fun e=>by rcases hr b e.symm with x|x<;>omega)).trans (h.2 b b0 b1)⟩
theorem jB.box{N g:Nat}{A B:World}(h:jB N g A B){k:Nat}{hd:zi}{m:za}(H:Zy A k hd m)(h0:k<N)(h1:k≠g):Zy B k hd m:=by
 obtain⟨q0,q1,q2,q3,q4,q5,q6⟩:=H;have c:∀i,B.cell? ⟨k,i,none⟩=A.cell? ⟨k,i,none⟩:=fun i=>h.cell (p:=⟨k,i,none⟩) h0 h1;exact⟨(c 0).trans q0,(c 1).trans q1,(c 2).trans q2,(c 3).trans q3,(c 4).trans q4,(c 5).trans q5,(c 6).trans q6⟩
theorem qgg{β:Type}{B N g:Nat}{A:World}(hN:N≤B)(hA:N≤A.heap.size):OwnFrom B (fun(_:β) W=>jB N g A W):=fun s X Y row hs hg hr=>
 hs.grown hg (Xd hA hs.1) (fun r e=> .inl (Xd hN (hr r e).1))
def Qy(cl:List zJ)(U:List Int)(pre:List (Fin U.length)):List (Int×Int):=(pre.map (fun x=>U[x])).flatMap (ve cl)
theorem qg4(cl:List zJ)(U:List Int)(pre:List (Fin U.length))(x:Fin U.length):Qy cl U (pre++[x])=Qy cl U pre++ve cl U[x]:=by simp[Qy]
theorem qgn(cl:List zJ)(U:List Int):Qy cl U (kJ U)=U.reverse.flatMap (ve cl):=by unfold Qy;rw[qpz]
theorem qut{w:World}{B e size n:Nat}{v:Value}{xs:List Value}(h:w.ownsRow B e size v n xs):∀r,v.ownBlock=some r→B≤r:=fun r hr=>by
 rcases h.2 with⟨rfl,_⟩|⟨g,cap,cur,rfl,hg,_⟩
 ·simp[Value.ownBlock]at hr
 ·have:g=r:=by simpa[Value.ownBlock]using hr
  omega
theorem qk9{N g:Nat}{A B:World}(h:jB N g A B)(v:Value):jB N g A (B.setCell ⟨g,0,none⟩ v):=
 ⟨by have:=(KeepsWalks.setCell B ⟨g,0,none⟩ v).size;exact Xd h.1 this,fun b b0 b1=>(Below.heap_setCell _ _ _ b b1).trans (h.2 b b0 b1)⟩
theorem qog{w:World}{B e size n:Nat}{v:Value}{xs:List Value}(h:w.ownsRow B e size v n xs):∀j o,v.ownBlock=some j→w.heap[j]? =some o→o.isCells=true:=fun j o hj ho=>by
 rcases h.2 with⟨rfl,_⟩|⟨g,cap,cur,rfl,hg,hh,_⟩
 ·simp[Value.ownBlock]at hj
 ·obtain rfl:g=j:=by simpa[Value.ownBlock]using hj
  rw[hh]at ho;cases ho;rfl
theorem qus{w:World}{B e size n:Nat}{v:Value}{xs:List Value}(h:w.ownsRow B e size v n xs):∃A c,v= .slice A n c:=by
 rcases Zk h with⟨rfl,rfl⟩|⟨g,c,rfl,_⟩
 ·exact⟨_,_,rfl⟩
 ·exact⟨_,_,rfl⟩
set_option maxHeartbeats 3200000 in
theorem q8x(m:za)(c:Int)(h:zi)(w:World)(H:zm w w.heap.size h m)(hn:m.classes.length≤1000)(hf:∀x ∈m.classes,x.fields.length≤1000):
  Calls Tryz.prog 197 #[zp h m,.int .i64 c] w (QT (qh m.classes c) w):=by
 obtain⟨i0,hi,hz0,hz1,hz2⟩:=jU JS;have HW:=zH (((zb w.heap.size w).alloc (zn _) (zg h m)).alloc (by simp) (.cells #[.slice none 0 0] 23));have HSZ:=zH (show((w.alloc (zg h m)).alloc (.cells #[.slice none 0 0] 23)).heap.size=w.heap.size+1+1 by simp);have HIM:=zH (H.now HW.out);have HBX:=zH ((ql w h m).keep ((zb _ (w.alloc (zg h m))).alloc (zn _) (.cells #[.slice none 0 0] 23)) (by simp));have HAL:=zH (show Go.Boxed ((w.alloc (zg h m)).alloc (.cells #[.slice none 0 0] 23)) (w.heap.size+1) 23 (.slice none 0 0)from by
  have:=Go.Boxed.new (w.alloc (zg h m)) 23 (.slice none 0 0);rw[World.size_alloc]at this;exact this)
 have HI0:=zH H;have HI0:=zH H;have HI0:=zH H;have HF:=zH hf;have HFO:=zH (show qh m.classes c=(zv (zz m.classes) c).reverse.flatMap (ve m.classes)from rfl);have hsl:(zz m.classes).length=m.classes.length:=kq _;obtain⟨U,hU⟩:∃U,zv (zz m.classes) c=U:=⟨_,rfl⟩
 have hUl:U.length≤1000:=by rw[←hU];have:=q10 (zz m.classes) c;omega
 have HUm:Hid (∀i ∈U,0≤i∧i<m.classes.length):=zH (by rw[←hU];intro i hi;have:=qcd hi;omega);have HU:=zH hU;rw[hU]at HFO;clear hsl hU H hf;refine(callsIn_wide (n:=4)).1 ?_;refine callsIn_of_wp_marks Tryz.func197 rfl trivial ?_ rfl;simp only[Tryz.ntmps197,List.size_toArray,XJ,List.length_nil,Nat.reduceAdd,Nat.reduceSub,Array.replicate_succ,Array.replicate_zero,List.push_toArray,List.append_toArray,List.nil_append,List.cons_append]
 gi_wp2_with (first
  |(refine⟨trivial,?_⟩;gi_at_call 208;refine(callsIn_wide.2 (qrf (by omega) HU HIM.out.classes)).mono ?_;rintro e w3 ⟨v3,rfl,ho,hb⟩;obtain⟨A3,c3,rfl,hl3,g1,g2⟩:=kO ho;have HB3:=zH hb;have HO3:=zH (qjy ho);clear hb ho hl3)
  |(refine⟨trivial,?_⟩;gi_at_call 207;refine(qvi Fence.wide _ trivial rfl _ _ _ _).mono ?_;rintro e w' ⟨rfl,rfl⟩))
 generalize(w.alloc (zg h m)).alloc (.cells #[.slice none 0 0] 23)=w2 at*
 obtain⟨N,hN⟩:∃N,N=w3.heap.size:=⟨_,rfl⟩
 have hs3:=HB3.out.size;have hs2:=HSZ.out;rw[←hN]at HO3 hs3;rw[hs2]at HO3;have hbB:Below w2.heap.size w2 (w3.alloc (.cells #[.slice A3 U.length c3] 26)):=HB3.out.trans ((zb _ w3).alloc (by omega) _);have HBB:=zH hbB;have hbox:=HBX.out.keep hbB (by omega);have hall:=(hbB.block (w.heap.size+1) (by omega)).trans HAL.out;have hcl:=HIM.out.now hbB;refine wpIn_rangeFunc_ownG rfl (by omega) (gf:=223) (lb:= #[.pointer (some ⟨w3.heap.size,0,none⟩)]) rfl trivial (enters_of Tryz.func223 (by kernel_rfl) rfl)
  (qmb Fence.wide 3 trivial rfl (by omega) w3.heap.size (w.heap.size+1+1) (N+1) A3 c3 U (by omega) (Kp:=jB (N+1) (w.heap.size+1)) (fun _ _ hk=>hk.kept) (w3.alloc (.cells #[.slice A3 U.length c3] 26)) (by omega) (by omega) (by simp;omega)
   (by rw[World.cell?_alloc_at _ _ _ _ rfl];rfl) (fun j u hu=>by
    obtain⟨ad,e,a0,a1,hc⟩:=HO3.out j u hu;exact⟨ad,e,a0,by omega,(World.cell?_alloc_lt w3 _ _ (by rw[zu];omega)).trans hc⟩))
  (fun a b=>a.trans b) (fun W l o o' hl _ _ _=>jB.putObj (by simp at hl;omega)) (zb _ _) (fun _=>rfl)
  (fun pre W=>(∃v,Go.Boxed W (w.heap.size+1) 23 v∧W.ownsRow (N+1) 50 2 v (Qy m.classes U pre).length (qk (Qy m.classes U pre))∧True)∧jB (N+1) (w.heap.size+1) (w3.alloc (.cells #[.slice A3 U.length c3] 26)) W∧Below w.heap.size w W)
  (fun _ _ _=>False)
  (OwnFrom.and (Own.from (holdsRow_own (N+1) (w.heap.size+1) 23 50 2 (fun pre=>(Qy m.classes U pre).length) (fun pre=>qk (Qy m.classes U pre)) (fun _ _=>True)) _) (OwnFrom.and (qgg (by simp;omega) (by simp;omega)) (ownFrom_below (zn _) (by simp;omega))))
  (fun _ _ _ _ _ hs _ _=>hs)
  ⟨⟨_,hall,XQ _ _ _ _,trivial⟩,jB.refl _ _ _,HW.out.trans (hbB.mono (by omega))⟩
  (fun x=> {tmps:= #[zp h m,.int .i64 c,.pointer (some ⟨w.heap.size,0,none⟩),undef,.slice none 0 0,.pointer (some ⟨w.heap.size+1,0,none⟩),undef,.int .i64 U[x],
   .pointer (some ⟨w.heap.size,0,none⟩),.slice h.A0 m.classes.length h.c0,.int .i64 c,.slice A3 U.length c3,.func (.func 223) #[] #[.pointer (some ⟨w3.heap.size,0,none⟩)],
   .int .i64 (x.1:Int),.int .i64 U[x],undef,undef,undef,undef,undef,undef,undef,undef,undef],defers:=[]}) ?assign ?body ?done ?stop
 case assign=>
  intro l x W K hK;unfold encU
  gi_wp2
  exact hK
 case body=>
  rintro l pre x W ⟨⟨v,hv,hrow,-⟩,hkb,hB⟩ hlt;have HSN:=zH (qg4 m.classes U pre x);have hsum:=q0z HF.out (pre.map (fun x=>U[x]));rw[Xo]at hsum;obtain⟨u0,u1⟩:=HUm.out U[x] (Xf x.2);generalize U[x]=u at*
  obtain⟨j,rfl⟩:=Xq u0;have hjl:j<m.classes.length:=by omega
  have hfx:=HF.out _ (Xf hjl);have HFA:=zH (q8g hjl);obtain⟨ad,e0,hab,hcx⟩:=(HI0.out.below_to hB (zn _)).classes.row.at_ hjl;generalize m.classes[j]=y at*
  obtain⟨s0,⟨A1,k1,s1,hs1⟩,_⟩:=hcx;have hmx:Tryz.prog.follows .mixedOrders=true:=by kernel_rfl
  obtain⟨q0,q1,q2,q3,q4,q5,q6⟩:=hkb.box hbox (by omega) (by omega);clear q1 q2 q3 q4 q5 q6 s0;rw[e0]at q0;obtain⟨L,hL⟩:∃L,Qy m.classes U pre=L:=⟨_,rfl⟩
  rw[hL]at hrow HSN;have hLl:L.length≤1000000:=by rw[←hL];unfold Qy;omega
  have HO:=zH hrow;obtain⟨Av,cv,rfl,_,_⟩:=YN hrow;clear hrow hL hsum;have hc:=hv.cell;have hfr:=hv.frozen;have HV:=zH hv;have HKB:=zH hkb;have HB:=zH hB;have HS1:Hid (∀W',Below w.heap.size W W'→W'.cell? (zf (ad.add (j*3)) 1)=some (.slice A1 y.fields.length k1)):=zH (fun W' hW=>(hW.cell (p:=zf (ad.add (j*3)) 1) (by show(ad.add _).block<_;rw[zu];exact hab)).trans s1);have HTL:=zH (YZ hs1.row);have hs2':=hs1.le;have hs3':=hs1.cap;have hNW:N+1≤W.heap.size:=by have:=hkb.1;simp at this;omega
  clear hv hkb hB hs1
  gi_wp2
  have HTLd:Hid (zq W.drew w.heap.size A1 (qk y.fields)):=HTL;have HOd:Hid (W.drew.ownsRow (N+1) 50 2 (.slice Av L.length cv) L.length (qk L)):=HO;have HVd:Hid (Go.Boxed W.drew (w.heap.size+1) 23 (.slice Av L.length cv)):=HV;have HKd:Hid (jB (N+1) (w.heap.size+1) W W.drew):=zH ⟨zn _,fun _ _ _=>rfl⟩;have HBd:Hid (Below w.heap.size W W.drew):=zH (zb w.heap.size W).drew;refine qfi hmx (by kernel_rfl) (S:=fun w'=>w'.cell? ⟨w.heap.size,0,none⟩=some (.slice (some ad) m.classes.length h.c0)∧w'.cell? (zf (ad.add (j*3)) 1)=some (.slice A1 y.fields.length k1)) ⟨q0,s1⟩ (fun hHeld=> ?_);refine mT 1 (h:=mT 3 (h:=mT 2 (h:=mT 4 (h:=mT 5 (h:=mT 6 (h:= ?_))))));refine wpAnyH_ready (rs:=[0]) (by kernel_rfl) (by simp) ?_;refine AllReadyH.cons (o:=_) rfl (fun K hK=> ?_) AllReadyH.nil;go_simp;refine hK.out _ _ ⟨q0,s1⟩ (fun hHeld=> ?_);clear hK K;try simp only[sA,sB,sC,Act.put,sD,sE,sF]
  refine wpAnyH_ready (rs:=[7]) (by kernel_rfl) (by simp) ?_;refine AllReadyH.cons (o:=_) rfl (fun K hK=> ?_) AllReadyH.nil
  (refine q13 rfl _ _ 23 rfl (N+1) 50 i0 (.agg #[.int .i64 0,.int .i64 0]) 2 16 Tryz.underlying23 hi hz0 hz1 hz2 rfl (by decide) _ L.length (qk L) rfl HOd.out A1 y.fields.length k1 _ (qk y.fields) (JU _) rfl HTLd.out (Jn _) (by unfold maxLen;omega) (by omega) hNW ?_;intro v6 w6 hown hgrow;have hrw:=qut HOd.out;have hV6:=HVd.out.kept hgrow (HVd.out.not_row (by decide) HOd.out);have HK6:=zH (HKd.out.grown hgrow hNW (fun r e=> .inl (hrw r e)));have HB6:=zH (HBd.out.grown hgrow (by show w.heap.size≤W.heap.size;omega) (fun r e=>by have:=hrw r e;omega));obtain⟨A6,c6,rfl⟩:=qus hown;have HO6:=zH hown;have HV6:=zH hV6;have HN6:=zH (KeepsOthers.of_grownBy hgrow (qog HOd.out));clear hown hgrow hV6 hrw;have hc6:=HV6.out.cell;have hf6:=HV6.out.frozen;have HK8:=zH (qk9 HK6.out (.slice A6 (L.length+y.fields.length) c6));have HB8:=zH (HB6.out.setCell (p:=⟨w.heap.size+1,0,none⟩) (by show w.heap.size≤w.heap.size+1;omega) (.slice A6 (L.length+y.fields.length) c6)))
  refine hK.out _ _ ⟨(HK6.out.cell (p:=⟨w.heap.size,0,none⟩) (by show w.heap.size<N+1;omega) (by show w.heap.size≠w.heap.size+1;omega)).trans q0,HS1.out _ HB6.out⟩ (fun hHeld=> ?_);clear hK K;try simp only[sA,sB,sC,Act.put,sD,sE,sF]
  refine wpAnyH_ready (rs:=[8]) (by kernel_rfl) (by simp) ?_;refine AllReadyH.cons (o:=_) rfl (fun K hK=> ?_) AllReadyH.nil;go_simp;refine hK.out _ _ ⟨(HK8.out.cell (p:=⟨w.heap.size,0,none⟩) (by show w.heap.size<N+1;omega) (by show w.heap.size≠w.heap.size+1;omega)).trans q0,HS1.out _ HB8.out⟩ (fun hHeld=> ?_);clear hK K;try simp only[sA,sB,sC,Act.put,sD,sE,sF]
  refine wpAnyH_done (by kernel_rfl) ?_ _;refine q0j.normal ?_
  gi_wp2
  have hrow9:=HO6.out.kept (grownBy_setCell' w6 (w.heap.size+1) (.slice A6 (L.length+y.fields.length) c6)) (.inr (HV6.out.not_row (by decide) HO6.out).symm);refine⟨(((KeepsOthers.drew W).trans HN6.out).trans (KeepsOthers.setCell _ _ _)).from _,HK8.out,⟨_,HV6.out.set _,?_,trivial⟩,HKB.out.trans HK8.out,HB.out.trans HB8.out⟩;rw[HSN.out,HFA.out];unfold qk at hrow9⊢
  rw[Wd,Xe];exact hrow9
 case done=>
  rintro D ys W hD rfl ⟨⟨v,hv,hrow,-⟩,hkb,hB⟩ hK;have hc:=hv.cell
  gi_wp2
  refine⟨by simp,.inl ⟨_,_,rfl,run_takeDeferred hK,?_⟩⟩;rw[qgn,←HFO.out]at hrow;exact⟨_,results_tmp rfl _ _ _,v,rfl,ja (ownsRow_putObj hrow _ hK rfl) (by omega),hB.trans (belowK_b (w:=w) (zn _) W D _ _ (by simp at hD;omega) hK rfl rfl)⟩
 case stop=>
  rintro D c pre W _ _ h _;exact h.elim
theorem qu0{k:Int}{j n cap:Nat}{ad:Addr}{x y:Int}{w:World}(HJ:Hid (k=(j:Int)))(hk:j<n)(hn:n≤9223372036854775807)(hab:ad.block<w.heap.size)
  (r0:w.cell? (ad.add (j*2))=some (.int .i64 x)) (r1:w.cell? (zf (ad.add (j*2)) 1)=some (.int .i64 y)):
  Calls Tryz.prog 206 #[.slice (some ad) n cap,.int .i64 k] w fun e w'=>e= .returned (.tuple #[zU x y,.bool true])∧Below w.heap.size w w':=by
 rw[HJ.out];exact qc9 j n cap ad x y w hk hn hab r0 r1
theorem qlz(x:zh)(j:Nat)(hj:j<x.args.length)(hx:qx)(w:World)(H:jt w w.heap.size hx x):
  Calls Tryz.prog 195 #[kn hx x,.int .i64 j] w fun e w'=>e= .returned (zU (qM x j).1 (qM x j).2)∧Below w.heap.size w w':=by
 have HW:=zH (((zb w.heap.size w).alloc (zn _) (.cells (qb hx x).toArray 53)).alloc (by simp) (.cells #[.int .i64 0,.int .i64 0] 50));have HQ:=zH (show zd ((w.alloc (.cells (qb hx x).toArray 53)).alloc (.cells #[.int .i64 0,.int .i64 0] 50)) (w.heap.size+1) [.int .i64 0,.int .i64 0] 50 from zd.at_ (by simp) _ _);have HC:=zH ((qr w (qb hx x) 53).keep ((zb _ _).alloc (zn _) (.cells #[.int .i64 0,.int .i64 0] 50)) (by simp));have HM:=zH (H.now HW.out);have h1:=H.args.le;have h2:=H.args.cap;have h3:=H.locals.le;have h4:=H.locals.cap;have hn63:x.args.length≤9223372036854775807:=by omega
 have hl63:x.locals.length≤9223372036854775807:=by omega
 clear H h1 h2 h3 h4;obtain⟨ad,e0,hab,r0,r1⟩:=HM.out.args.row.at_ hj;have HE:=zH e0;rw[qhn hj];generalize x.args[j]=t at*
 clear e0;go_enter Tryz.func195,Tryz.ntmps195;go_upto_region 1 with fail
 generalize(w.alloc (.cells (qb hx x).toArray 53)).alloc (.cells #[.int .i64 0,.int .i64 0] 50)=w1 at*
 have q0:=HC.out 0 _ rfl;have q1:=HC.out 1 _ rfl;try rw[HE.out]at q0
 try rw[HE1.out]at q1
 have hlt:=HQ.out.lt;clear HC;go_wp2_with(go_at_call 206;(with_reducible refine(qc9 j x.args.length hx.k0 ad t.1 t.2 w1 hj hn63 hab r0 r1).mono ?_);rintro e w2 ⟨rfl,hb⟩;have HB2:=zH hb;have HQ2:=zH (HQ.out.keep hb hlt);have c0:=HQ2.out.cells 0 _ rfl;have c1:=HQ2.out.cells 1 _ rfl;have f0:=HQ2.out.free 0;have f1:=HQ2.out.free 1;have hlt2:=HQ2.out.lt;clear hb)
 have HQ3a:=(HQ2.out.set 0 (.int .i64 t.1)).set 1 (.int .i64 t.2);have HB3:=zH ((HB2.out.mono HW.out.size).setCell (p:=⟨w.heap.size+1,0,none⟩) (by show w.heap.size≤w.heap.size+1;omega) (.int .i64 t.1)|>.setCell (p:=⟨w.heap.size+1,1,none⟩) (by show w.heap.size≤w.heap.size+1;omega) (.int .i64 t.2));have HQ3:=zH (zd.keep HQ3a ((zb _ _).alloc (zn _) (.cells #[.int .i64 t.1,.int .i64 t.2] 50)) HQ3a.lt);have d0:=HQ3.out.cells 0 _ rfl;have d1:=HQ3.out.cells 1 _ rfl;exact Xl (v:=zU t.1 t.2) (by simp[results,Tryz.results195,go_sem,d0,d1]) rfl ⟨rfl,HW.out.trans (HB3.out.alloc (Xd HW.out.size HB3.out.size) _)⟩
theorem qly(x:zh)(n:Int)(hn:n<0)(hx:qx)(w:World)(H:jt w w.heap.size hx x):
  Calls Tryz.prog 195 #[kn hx x,.int .i64 n] w fun e w'=>e= .returned (zU (qM x n).1 (qM x n).2)∧Below w.heap.size w w':=by
 have HW:=zH (((zb w.heap.size w).alloc (zn _) (.cells (qb hx x).toArray 53)).alloc (by simp) (.cells #[.int .i64 0,.int .i64 0] 50));have HQ:=zH (show zd ((w.alloc (.cells (qb hx x).toArray 53)).alloc (.cells #[.int .i64 0,.int .i64 0] 50)) (w.heap.size+1) [.int .i64 0,.int .i64 0] 50 from zd.at_ (by simp) _ _);have HC:=zH ((qr w (qb hx x) 53).keep ((zb _ _).alloc (zn _) (.cells #[.int .i64 0,.int .i64 0] 50)) (by simp));have HM:=zH (H.now HW.out);have h1:=H.args.le;have h2:=H.args.cap;have h3:=H.locals.le;have h4:=H.locals.cap;have hn63:x.args.length≤9223372036854775807:=by omega
 have hl63:x.locals.length≤9223372036854775807:=by omega
 clear H h1 h2 h3 h4;have hno:n<0∨(x.args.length:Int)≤n:= .inl hn;have hlt0:n<(x.args.length:Int):=by omega
 rw[qhm hn];clear hn;go_enter Tryz.func195,Tryz.ntmps195;go_upto_region 1 with fail
 generalize(w.alloc (.cells (qb hx x).toArray 53)).alloc (.cells #[.int .i64 0,.int .i64 0] 50)=w1 at*
 have q0:=HC.out 0 _ rfl;have q1:=HC.out 1 _ rfl;try rw[HE.out]at q0
 try rw[HE1.out]at q1
 have hlt:=HQ.out.lt;clear HC;go_wp2_with(go_at_call 206;(with_reducible refine(qdy n x.args.length hx.k0 hx.A0 w1 hn63 hno).mono ?_);rintro e w2 ⟨rfl,hb⟩;have HB2:=zH hb;have HQ2:=zH (HQ.out.keep hb hlt);have c0:=HQ2.out.cells 0 _ rfl;have c1:=HQ2.out.cells 1 _ rfl;have f0:=HQ2.out.free 0;have f1:=HQ2.out.free 1;have hlt2:=HQ2.out.lt;clear hb)
 have HQ3a:=(HQ2.out.set 0 (.int .i64 ((0:Int),(0:Int)).1)).set 1 (.int .i64 ((0:Int),(0:Int)).2);have HB3:=zH ((HB2.out.mono HW.out.size).setCell (p:=⟨w.heap.size+1,0,none⟩) (by show w.heap.size≤w.heap.size+1;omega) (.int .i64 ((0:Int),(0:Int)).1)|>.setCell (p:=⟨w.heap.size+1,1,none⟩) (by show w.heap.size≤w.heap.size+1;omega) (.int .i64 ((0:Int),(0:Int)).2));have HQ3:=zH (zd.keep HQ3a ((zb _ _).alloc (zn _) (.cells #[.int .i64 ((0:Int),(0:Int)).1,.int .i64 ((0:Int),(0:Int)).2] 50)) HQ3a.lt);have d0:=HQ3.out.cells 0 _ rfl;have d1:=HQ3.out.cells 1 _ rfl;exact Xl (v:=zU ((0:Int),(0:Int)).1 ((0:Int),(0:Int)).2) (by simp[results,Tryz.results195,go_sem,d0,d1]) rfl ⟨rfl,HW.out.trans (HB3.out.alloc (Xd HW.out.size HB3.out.size) _)⟩
theorem qgr(x:zh)(n:Int)(hlt0:(x.args.length:Int)≤n)(hn:n<(x.args.length:Int)+x.locals.length)(hs:n≤9223372036854775807)(hx:qx)(w:World)(H:jt w w.heap.size hx x):
  Calls Tryz.prog 195 #[kn hx x,.int .i64 n] w fun e w'=>e= .returned (zU (qM x n).1 (qM x n).2)∧Below w.heap.size w w':=by
 have HW:=zH (((zb w.heap.size w).alloc (zn _) (.cells (qb hx x).toArray 53)).alloc (by simp) (.cells #[.int .i64 0,.int .i64 0] 50));have HQ:=zH (show zd ((w.alloc (.cells (qb hx x).toArray 53)).alloc (.cells #[.int .i64 0,.int .i64 0] 50)) (w.heap.size+1) [.int .i64 0,.int .i64 0] 50 from zd.at_ (by simp) _ _);have HC:=zH ((qr w (qb hx x) 53).keep ((zb _ _).alloc (zn _) (.cells #[.int .i64 0,.int .i64 0] 50)) (by simp));have HM:=zH (H.now HW.out);have h1:=H.args.le;have h2:=H.args.cap;have h3:=H.locals.le;have h4:=H.locals.cap;have hn63:x.args.length≤9223372036854775807:=by omega
 have hl63:x.locals.length≤9223372036854775807:=by omega
 clear H h1 h2 h3 h4;obtain⟨j,hj⟩:=Xq (show 0≤n - (x.args.length:Int)by omega);have hjl:j<x.locals.length:=by omega
 have HJ:=zH hj;have e2:n=((x.args.length+j:Nat):Int):=by omega
 obtain⟨ad,e0,hab,r0,r1⟩:=HM.out.locals.row.at_ hjl;have HE1:=zH e0;have e3:qM x n=x.locals[j]:=by rw[e2];exact qfy hjl
 rw[e3];generalize x.locals[j]=t at*
 clear e0 hj e2 e3;go_enter Tryz.func195,Tryz.ntmps195;go_upto_region 1 with fail
 generalize(w.alloc (.cells (qb hx x).toArray 53)).alloc (.cells #[.int .i64 0,.int .i64 0] 50)=w1 at*
 have q0:=HC.out 0 _ rfl;have q1:=HC.out 1 _ rfl;try rw[HE.out]at q0
 try rw[HE1.out]at q1
 have hlt:=HQ.out.lt;clear HC;go_wp2_with(go_at_call 206;(with_reducible refine(qu0 HJ hjl hl63 hab r0 r1).mono ?_);rintro e w2 ⟨rfl,hb⟩;have HB2:=zH hb;have HQ2:=zH (HQ.out.keep hb hlt);have c0:=HQ2.out.cells 0 _ rfl;have c1:=HQ2.out.cells 1 _ rfl;have f0:=HQ2.out.free 0;have f1:=HQ2.out.free 1;have hlt2:=HQ2.out.lt;clear hb)
 have HQ3a:=(HQ2.out.set 0 (.int .i64 t.1)).set 1 (.int .i64 t.2);have HB3:=zH ((HB2.out.mono HW.out.size).setCell (p:=⟨w.heap.size+1,0,none⟩) (by show w.heap.size≤w.heap.size+1;omega) (.int .i64 t.1)|>.setCell (p:=⟨w.heap.size+1,1,none⟩) (by show w.heap.size≤w.heap.size+1;omega) (.int .i64 t.2));have HQ3:=zH (zd.keep HQ3a ((zb _ _).alloc (zn _) (.cells #[.int .i64 t.1,.int .i64 t.2] 50)) HQ3a.lt);have d0:=HQ3.out.cells 0 _ rfl;have d1:=HQ3.out.cells 1 _ rfl;exact Xl (v:=zU t.1 t.2) (by simp[results,Tryz.results195,go_sem,d0,d1]) rfl ⟨rfl,HW.out.trans (HB3.out.alloc (Xd HW.out.size HB3.out.size) _)⟩
theorem qib(x:zh)(n:Int)(hn:(x.args.length:Int)+x.locals.length≤n)(hs:n≤9223372036854775807)(hx:qx)(w:World)(H:jt w w.heap.size hx x):
  Calls Tryz.prog 195 #[kn hx x,.int .i64 n] w fun e w'=>e= .returned (zU (qM x n).1 (qM x n).2)∧Below w.heap.size w w':=by
 have HW:=zH (((zb w.heap.size w).alloc (zn _) (.cells (qb hx x).toArray 53)).alloc (by simp) (.cells #[.int .i64 0,.int .i64 0] 50));have HQ:=zH (show zd ((w.alloc (.cells (qb hx x).toArray 53)).alloc (.cells #[.int .i64 0,.int .i64 0] 50)) (w.heap.size+1) [.int .i64 0,.int .i64 0] 50 from zd.at_ (by simp) _ _);have HC:=zH ((qr w (qb hx x) 53).keep ((zb _ _).alloc (zn _) (.cells #[.int .i64 0,.int .i64 0] 50)) (by simp));have HM:=zH (H.now HW.out);have h1:=H.args.le;have h2:=H.args.cap;have h3:=H.locals.le;have h4:=H.locals.cap;have hn63:x.args.length≤9223372036854775807:=by omega
 have hl63:x.locals.length≤9223372036854775807:=by omega
 clear H h1 h2 h3 h4;have hno:n - (x.args.length:Int)<0∨(x.locals.length:Int)≤n - (x.args.length:Int):=by omega
 rw[qgj hn];have hlt0:(x.args.length:Int)≤n:=by omega
 go_enter Tryz.func195,Tryz.ntmps195;go_upto_region 1 with fail
 generalize(w.alloc (.cells (qb hx x).toArray 53)).alloc (.cells #[.int .i64 0,.int .i64 0] 50)=w1 at*
 have q0:=HC.out 0 _ rfl;have q1:=HC.out 1 _ rfl;try rw[HE.out]at q0
 try rw[HE1.out]at q1
 have hlt:=HQ.out.lt;clear HC;go_wp2_with(go_at_call 206;(with_reducible refine(qdy (n - (x.args.length:Int)) x.locals.length hx.k1 hx.A1 w1 hl63 hno).mono ?_);rintro e w2 ⟨rfl,hb⟩;have HB2:=zH hb;have HQ2:=zH (HQ.out.keep hb hlt);have c0:=HQ2.out.cells 0 _ rfl;have c1:=HQ2.out.cells 1 _ rfl;have f0:=HQ2.out.free 0;have f1:=HQ2.out.free 1;have hlt2:=HQ2.out.lt;clear hb)
 have HQ3a:=(HQ2.out.set 0 (.int .i64 ((0:Int),(0:Int)).1)).set 1 (.int .i64 ((0:Int),(0:Int)).2);have HB3:=zH ((HB2.out.mono HW.out.size).setCell (p:=⟨w.heap.size+1,0,none⟩) (by show w.heap.size≤w.heap.size+1;omega) (.int .i64 ((0:Int),(0:Int)).1)|>.setCell (p:=⟨w.heap.size+1,1,none⟩) (by show w.heap.size≤w.heap.size+1;omega) (.int .i64 ((0:Int),(0:Int)).2));have HQ3:=zH (zd.keep HQ3a ((zb _ _).alloc (zn _) (.cells #[.int .i64 ((0:Int),(0:Int)).1,.int .i64 ((0:Int),(0:Int)).2] 50)) HQ3a.lt);have d0:=HQ3.out.cells 0 _ rfl;have d1:=HQ3.out.cells 1 _ rfl;exact Xl (v:=zU ((0:Int),(0:Int)).1 ((0:Int),(0:Int)).2) (by simp[results,Tryz.results195,go_sem,d0,d1]) rfl ⟨rfl,HW.out.trans (HB3.out.alloc (Xd HW.out.size HB3.out.size) _)⟩
theorem qm0(x:zh)(n:Int)(hs:n≤9223372036854775807)(hx:qx)(w:World)(H:jt w w.heap.size hx x):
  Calls Tryz.prog 195 #[kn hx x,.int .i64 n] w fun e w'=>e= .returned (zU (qM x n).1 (qM x n).2)∧Below w.heap.size w w':=by
 by_cases h0:n<0
 ·exact qly x n h0 hx w H
 ·by_cases h1:n<x.args.length
  ·obtain⟨j,rfl⟩:=Xq (show 0≤n by omega);exact qlz x j (by omega) hx w H
  ·by_cases h2:n<(x.args.length:Int)+x.locals.length
   ·exact qgr x n (by omega) h2 hs hx w H
   ·exact qib x n (by omega) hs hx w H
section
variable{m:za}{h:zi}{w0 w:World}{c:Int}
theorem qi8{L:List (Int×Int)}(HI:Hid (zm w0 w0.heap.size h m))(HX:Hid (Below w0.heap.size w0 w))(HL:Hid (qh m.classes c=L))(hn:m.classes.length≤1000)(HF:Hid (∀x ∈m.classes,x.fields.length≤1000)):
  Calls Tryz.prog 197 #[zp h m,.int .i64 c] w (QT L w):=by
 have H:=q8x m c h w (HI.out.now HX.out) hn HF.out;rw[HL.out]at H;exact H
end
theorem qq9(m:za)(c:Int)(h:zi)(w:World)(H:zm w w.heap.size h m)(hn:m.classes.length≤1000)(hf:∀x ∈m.classes,x.fields.length≤1000):
  Calls Tryz.prog 187 #[zp h m,.int .i64 c] w fun e w'=>e= .returned (.int .i64 (1+((qh m.classes c).length:Int)))∧Below w.heap.size w w':=by
 have HW:=zH ((zb w.heap.size w).alloc (zn _) (zg h m));have HIM:=zH (H.now HW.out);have HBX:=zH (ql w h m);have HF:=zH hf;have hL:=q4a hf hn c;obtain⟨L,e⟩:∃L,qh m.classes c=L:=⟨_,rfl⟩
 rw[e]at hL⊢
 have HL:=zH e;clear e hf H;go_enter Tryz.func187,Tryz.ntmps187;go_upto_region 1 with fail
 generalize w.alloc (zg h m)=w1 at*
 obtain⟨q0,q1,q2,q3,q4,q5,q6⟩:=HBX.out;go_wp2_with(go_at_call 197;(with_reducible refine(qi8 HIM (zH (zb _ _)) HL hn HF).mono ?_);rintro e w2 ⟨v2,rfl,ho,hb⟩;have HB2:=zH hb;obtain⟨A2,c2,rfl,hl2,_⟩:=YN ho;clear hb ho hl2)
 go_ret;exact⟨by first|rfl|simp,HW.out.trans (HB2.out.mono HW.out.size)⟩
theorem qbn{P:Prop}(h:P:=by
 have e:ofO n=none:=by unfold ofO;rw[Xa];intro g;have:=JX.mp g;omega
 rw[e];clear e;go_enter Tryz.func95,Tryz.ntmps95;go_wp2_with fail
 have hz:=zd.new w [.int .i64 0,.bool true] 150;have k0:=hz.cells 0 _ rfl;have k1:=hz.cells 1 _ rfl;refine Xl (v:=jq none) (by simp[results,Tryz.results95,go_sem,k0,k1]) rfl ⟨rfl,?_⟩;exact(zb w.heap.size w).alloc (zn _) _):P:=h
theorem of_any(n:Int)(w:World):Calls Tryz.prog 95 #[.int .i64 n] w fun e w'=>e= .returned (jq (ofO n))∧Below w.heap.size w w':=by
 by_cases h1:n≤ -4611686018427387904
 ·exact qbn
 by_cases h2:n ≥ 4611686018427387904
 ·exact qbn
 ·have e:ofO n=some n:=by unfold ofO;rw[Xb];exact JX.mpr (by omega)
  rw[e];clear e;go_enter Tryz.func95,Tryz.ntmps95;go_wp2_with fail
  have hz:=zd.new w [.int .i64 n,.bool false] 150;have k0:=hz.cells 0 _ rfl;have k1:=hz.cells 1 _ rfl;refine Xl (v:=jq (some n)) (by simp[results,Tryz.results95,go_sem,k0,k1]) rfl ⟨rfl,?_⟩;exact(zb w.heap.size w).alloc (zn _) _
theorem Yo{n:Int}{r:Option Int}{w:World}(HR:Hid (ofO n=r)):Calls Tryz.prog 95 #[.int .i64 n] w fun e w'=>e= .returned (jq r)∧Below w.heap.size w w':=by
 have H:=of_any n w;rw[HR.out]at H;exact H
set_option maxHeartbeats 800000 in
theorem qs5(a b:Option Int)(ha:vn a)(hb:vn b)(w:World):Calls Tryz.prog 94 #[jq a,jq b] w fun e w'=>e= .returned (jq (QO a b))∧Below w.heap.size w w':=by
 cases a with
 |none=>
  have e:QO none b=none:=by cases b<;>rfl
  rw[e];show Calls Tryz.prog 94 #[.agg #[.int .i64 0,.bool true],.agg #[.int .i64 (b.getD 0),.bool b.isNone]] w _;generalize b.getD 0=y;generalize b.isNone=yb;go_enter Tryz.func94,Tryz.ntmps94;go_wp2_with fail
  have hz:=zd.at_ (w:=(w.alloc (.cells #[.int .i64 0,.bool true] 150)).alloc (.cells #[.int .i64 y,.bool yb] 150)) (N:=w.heap.size+1+1) (by simp) [.int .i64 0,.bool true] 150;have k0:=hz.cells 0 _ rfl;have k1:=hz.cells 1 _ rfl;refine Xl (v:=jq none) (by simp[results,Tryz.results94,go_sem,k0,k1]) rfl ⟨rfl,?_⟩;exact(((zb w.heap.size w).alloc (zn _) _).alloc (by simp) _).alloc (by simp;omega) _
 |some x=>cases b with
  |none=>
   show Calls Tryz.prog 94 #[.agg #[.int .i64 x,.bool false],.agg #[.int .i64 0,.bool true]] w (fun e w'=>e= .returned (jq none)∧Below w.heap.size w w');go_enter Tryz.func94,Tryz.ntmps94;go_wp2_with fail
   have hz:=zd.at_ (w:=(w.alloc (.cells #[.int .i64 x,.bool false] 150)).alloc (.cells #[.int .i64 0,.bool true] 150)) (N:=w.heap.size+1+1) (by simp) [.int .i64 0,.bool true] 150;have k0:=hz.cells 0 _ rfl;have k1:=hz.cells 1 _ rfl;refine Xl (v:=jq none) (by simp[results,Tryz.results94,go_sem,k0,k1]) rfl ⟨rfl,?_⟩;exact(((zb w.heap.size w).alloc (zn _) _).alloc (by simp) _).alloc (by simp;omega) _
  |some y=>
   have h1:=JX.mp (ha x rfl);have h2:=JX.mp (hb y rfl);have hw:IntKind.i64.wrap (x+y)=x+y:=IntWalk.i64_in _ (by omega);show Calls Tryz.prog 94 #[.agg #[.int .i64 x,.bool false],.agg #[.int .i64 y,.bool false]] w (fun e w'=>e= .returned (jq (ofO (x+y)))∧Below w.heap.size w w');obtain⟨r,hr⟩:∃r,ofO (x+y)=r:=⟨_,rfl⟩
   have HR:=zH hr;rw[hr];clear hr ha hb;go_enter Tryz.func94,Tryz.ntmps94;go_wp2_with(first|(go_at_call 95;(with_reducible refine(Yo HR).mono ?_);rintro e w9 ⟨rfl,hb⟩;have hW:=(zd.at_ (w:=_) (N:=w.heap.size+1+1) (by simp) [.int .i64 0,.bool false] 150).keep hb (by simp);have HW:=zH hW;have z0:=hW.cells 0 _ rfl;have z1:=hW.cells 1 _ rfl;have f0:=hW.free 0;have f1:=hW.free 1;have HB:=zH ((((((zb w.heap.size w).alloc (zn _) _).alloc (by simp) _).alloc (by simp;omega) _).trans (hb.mono (by simp;omega))));clear hb hW))
   have hz:=(HW.out.set 0 (.int .i64 (r.getD 0))).set 1 (.bool r.isNone);have k0:=hz.cells 0 _ rfl;have k1:=hz.cells 1 _ rfl;refine Xl (v:=jq r) (by simp[results,Tryz.results94,go_sem,k0,k1]) rfl ⟨rfl,?_⟩;exact(HB.out.setCell (p:=⟨w.heap.size+1+1,0,none⟩) (by simp;omega) _).setCell (p:=⟨w.heap.size+1+1,1,none⟩) (by simp;omega) _
theorem qur{a b r:Option Int}{w:World}(HA:Hid (vn a))(HB:Hid (vn b))(HR:Hid (QO a b=r)):Calls Tryz.prog 94 #[jq a,jq b] w fun e w'=>e= .returned (jq r)∧Below w.heap.size w w':=by
 have H:=qs5 a b HA.out HB.out w;rw[HR.out]at H;exact H
set_option maxHeartbeats 800000 in
theorem qmz(a b:Option Int)(ha:vn a)(hb:vn b)(w:World):Calls Tryz.prog 96 #[jq a,jq b] w fun e w'=>e= .returned (jq (ZF a b))∧Below w.heap.size w w':=by
 cases a with
 |none=>
  have e:ZF none b=none:=by cases b<;>rfl
  rw[e];show Calls Tryz.prog 96 #[.agg #[.int .i64 0,.bool true],.agg #[.int .i64 (b.getD 0),.bool b.isNone]] w _;generalize b.getD 0=y;generalize b.isNone=yb;go_enter Tryz.func96,Tryz.ntmps96;go_wp2_with fail
  have hz:=zd.at_ (w:=(w.alloc (.cells #[.int .i64 0,.bool true] 150)).alloc (.cells #[.int .i64 y,.bool yb] 150)) (N:=w.heap.size+1+1) (by simp) [.int .i64 0,.bool true] 150;have k0:=hz.cells 0 _ rfl;have k1:=hz.cells 1 _ rfl;refine Xl (v:=jq none) (by simp[results,Tryz.results96,go_sem,k0,k1]) rfl ⟨rfl,?_⟩;exact(((zb w.heap.size w).alloc (zn _) _).alloc (by simp) _).alloc (by simp;omega) _
 |some x=>cases b with
  |none=>
   show Calls Tryz.prog 96 #[.agg #[.int .i64 x,.bool false],.agg #[.int .i64 0,.bool true]] w (fun e w'=>e= .returned (jq none)∧Below w.heap.size w w');go_enter Tryz.func96,Tryz.ntmps96;go_wp2_with fail
   have hz:=zd.at_ (w:=(w.alloc (.cells #[.int .i64 x,.bool false] 150)).alloc (.cells #[.int .i64 0,.bool true] 150)) (N:=w.heap.size+1+1) (by simp) [.int .i64 0,.bool true] 150;have k0:=hz.cells 0 _ rfl;have k1:=hz.cells 1 _ rfl;refine Xl (v:=jq none) (by simp[results,Tryz.results96,go_sem,k0,k1]) rfl ⟨rfl,?_⟩;exact(((zb w.heap.size w).alloc (zn _) _).alloc (by simp) _).alloc (by simp;omega) _
  |some y=>
   have HX:=zH (ha x rfl);have HY:=zH (hb y rfl);show Calls Tryz.prog 96 #[.agg #[.int .i64 x,.bool false],.agg #[.int .i64 y,.bool false]] w (fun e w'=>e= .returned (jq (ofO (x*y)))∧Below w.heap.size w w');obtain⟨n,hn⟩:∃n,IntKind.i64.wrap (x*y)=n:=⟨_,rfl⟩
   clear ha hb;by_cases h0:y=0
   ·have hd:(y !=0)=false:=by simp[h0]
    have hr:ofO (x*y)=some 0:=by rw[h0,Int.mul_zero];rfl
    have hn0:n=0:=by rw[←hn,h0,Int.mul_zero];rfl
    have HR:Hid (ofO n=some 0):=zH (by rw[hn0];rfl);rw[hr];clear hr hn0 h0;go_enter Tryz.func96,Tryz.ntmps96;go_upto_region 4 with fail
    go_quiet (fail)
    go_wp2_with(first|(go_at_call 95;(with_reducible refine(Yo HR).mono ?_);rintro e w9 ⟨rfl,hb⟩;have hW:=((zd.at_ (w:=_) (N:=w.heap.size+1+1) (by simp) [.int .i64 0,.bool false] 150).keep (qZ (zb (w.heap.size+1+1+1) _) _) (by simp)).keep hb (by simp);have HW:=zH hW;have z0:=hW.cells 0 _ rfl;have z1:=hW.cells 1 _ rfl;have f0:=hW.free 0;have f1:=hW.free 1;have HB:=zH ((qZ (((((zb w.heap.size w).alloc (zn _) _).alloc (by simp) _).alloc (by simp;omega) _)) _).trans (hb.mono (by simp;omega)));clear hb hW))
    have hz:=(HW.out.set 0 (.int .i64 0)).set 1 (.bool false);have k0:=hz.cells 0 _ rfl;have k1:=hz.cells 1 _ rfl;refine Xl (v:=jq (some 0)) (by simp[results,Tryz.results96,go_sem,k0,k1]) rfl ⟨rfl,?_⟩;exact(HB.out.setCell (p:=⟨w.heap.size+1+1,0,none⟩) (by simp;omega) _).setCell (p:=⟨w.heap.size+1+1,1,none⟩) (by simp;omega) _
   ·have hd:(y !=0)=true:=by simp[h0]
    have⟨hq,_⟩:=qci HX.out HY.out h0 hn;have⟨hp1,hp2⟩:=qsk HX.out HY.out h0 hn;obtain⟨q,hqv⟩:∃q,Int.tdiv n y=q:=⟨_,rfl⟩
    rw[hqv]at hq hp1 hp2;have hwq:IntKind.i64.wrap q=q:=IntWalk.i64_in _ (by omega);by_cases hqx:q=x
    ·have hb:(q !=x)=false:=by simp[hqx]
     have hnx:ofO (x*y)=ofO n:=by rw[hp2 hqx]
     obtain⟨r,hr⟩:∃r,ofO n=r:=⟨_,rfl⟩
     rw[hnx,hr];have HR:=zH hr;have HQ:=zH hqx;clear hr hnx hp1 hp2 hqx;go_enter Tryz.func96,Tryz.ntmps96;go_upto_region 4 with fail
     go_quiet (fail)
     go_wp2_with(first|(go_at_call 95;(with_reducible refine(Yo HR).mono ?_);rintro e w9 ⟨rfl,hb⟩;have hW:=((zd.at_ (w:=_) (N:=w.heap.size+1+1) (by simp) [.int .i64 0,.bool false] 150).keep (qZ (zb (w.heap.size+1+1+1) _) _) (by simp)).keep hb (by simp);have HW:=zH hW;have z0:=hW.cells 0 _ rfl;have z1:=hW.cells 1 _ rfl;have f0:=hW.free 0;have f1:=hW.free 1;have HB:=zH ((qZ (((((zb w.heap.size w).alloc (zn _) _).alloc (by simp) _).alloc (by simp;omega) _)) _).trans (hb.mono (by simp;omega)));clear hb hW))
     have hz:=(HW.out.set 0 (.int .i64 (r.getD 0))).set 1 (.bool r.isNone);have k0:=hz.cells 0 _ rfl;have k1:=hz.cells 1 _ rfl;refine Xl (v:=jq r) (by simp[results,Tryz.results96,go_sem,k0,k1]) rfl ⟨rfl,?_⟩;exact(HB.out.setCell (p:=⟨w.heap.size+1+1,0,none⟩) (by simp;omega) _).setCell (p:=⟨w.heap.size+1+1,1,none⟩) (by simp;omega) _
    ·have hb:(q !=x)=true:=by simp[hqx]
     have hr:ofO (x*y)=none:=by unfold ofO;rw[hp1 hqx];rfl
     rw[hr];clear hr hp1 hp2 hqx;go_enter Tryz.func96,Tryz.ntmps96;go_upto_region 4 with fail
     go_quiet (fail)
     go_wp2_with fail
     have hz:=(((zd.at_ (w:=(w.alloc (.cells #[.int .i64 x,.bool false] 150)).alloc (.cells #[.int .i64 y,.bool false] 150)) (N:=w.heap.size+1+1) (by simp) [.int .i64 0,.bool false] 150).keep (qZ (zb (w.heap.size+1+1+1) _) nq) (by simp)).set 0 (.int .i64 0)).set 1 (.bool true);have k0:=hz.cells 0 _ rfl;have k1:=hz.cells 1 _ rfl;refine Xl (v:=jq none) (by simp[results,Tryz.results96,go_sem,k0,k1]) rfl ⟨rfl,?_⟩;exact((qZ (((((zb w.heap.size w).alloc (zn _) _).alloc (by simp) _).alloc (by simp;omega) _)) _).setCell (p:=⟨w.heap.size+1+1,0,none⟩) (by simp;omega) _).setCell (p:=⟨w.heap.size+1+1,1,none⟩) (by simp;omega) _
theorem q39{a b r:Option Int}{w:World}(HA:Hid (vn a))(HB:Hid (vn b))(HR:Hid (ZF a b=r)):Calls Tryz.prog 96 #[jq a,jq b] w fun e w'=>e= .returned (jq r)∧Below w.heap.size w w':=by
 have H:=qmz a b HA.out HB.out w;rw[HR.out]at H;exact H
def vA(op a b:Int):List Int:=zy op.toNat++((if 0<zM op then zy a.toNat else [])++(if 1<zM op then zy b.toNat else []))
def vC(rest:List Int)(bad:Bool):(Int×Int×Int)×List Int×Bool:=
 let g:=qc rest bad 34
 let h:=if 0<zM g.1 then qc g.2.1 g.2.2 255 else(0,g.2)
 let k:=if 1<zM g.1 then qc h.2.1 h.2.2 255 else(0,h.2)
 ((g.1,h.1,k.1),k.2)
theorem q3n{n most:Int}(r:List Int)(h0:0≤n)(h1:n≤most)(h2:most≤34359738367):qc (zy n.toNat++r) false most=(n,r,false):=by
 have e:=q4v (n:=n.toNat) r (by omega);have hp:=kp n.toNat
 unfold qc;rw[e,Xb ⟨rfl,hp,by dsimp only;omega⟩];have e2:(n.toNat:Int)=n:=by omega
 simp[e2]
theorem q1h(rest:List Int)(most:Int):qc rest true most=(0,rest,true):=qv5 (.inl rfl)
theorem q3f{l r:List Int}{n most:Int}(hl:∀b ∈l,0≤b∧b≤255)(h:qc l false most=(n,r,false)):l=zy n.toNat++r∧0≤n∧n≤most:=by
 unfold qc at h;split at h
 ·rename_i g;obtain⟨_,g1,g2⟩:=g;obtain⟨b1,b2,b3,b4⟩:=qbh hl g1;simp only[Prod.mk.injEq]at h;obtain⟨rfl,rfl,_⟩:=h;refine⟨?_,by omega,g2⟩;rw[Xi,←b3,List.take_append_drop]
 ·simp at h
theorem q3g{op a b:Int}(r:List Int)(h:qf op a b=true):vC (vA op a b++r) false=((op,a,b),r,false):=by
 obtain⟨o0,o1,a0,a1,b0,b1⟩:=Qr h;have h:=VO.mp h;have e0:vA op a b++r=zy op.toNat++((if 0<zM op then zy a.toNat else [])++((if 1<zM op then zy b.toNat else [])++r)):=by simp[vA]
 have g0:=q3n ((if 0<zM op then zy a.toNat else [])++((if 1<zM op then zy b.toNat else [])++r)) (n:=op) (most:=34) (by omega) o1 (by omega);rw[←e0]at g0;unfold vC;simp only[g0];by_cases c1:0<zM op
 ·have g1:=q3n ((if 1<zM op then zy b.toNat else [])++r) (n:=a) (most:=255) a0 a1 (by omega);simp only[Xb c1,g1];by_cases c2:1<zM op
  ·have g2:=q3n r (n:=b) (most:=255) b0 b1 (by omega);simp only[Xb c2,g2]
  ·have:b=0:=by omega
   subst this;simp only[Xa c2,List.nil_append]
 ·have:a=0:=by omega
  subst this;have c2:¬1<zM op:=by omega
  have:b=0:=by omega
  subst this;simp only[Xa c1,Xa c2,List.nil_append]
theorem qph{l r:List Int}{op a b:Int}(hl:∀b ∈l,0≤b∧b≤255)(h:vC l false=((op,a,b),r,false)):l=vA op a b++r∧0≤op∧op≤34∧0≤a∧a≤255∧0≤b∧b≤255∧(op=0∨qf op a b=true):=by
 unfold vC at h;obtain⟨g,hg⟩:∃g,qc l false 34=g:=⟨_,rfl⟩
 rw[hg]at h;obtain⟨n0,r0,b0⟩:=g;dsimp only at h;obtain⟨g1,hg1⟩:∃g1,(if 0<zM n0 then qc r0 b0 255 else(0,r0,b0))=g1:=⟨_,rfl⟩
 rw[hg1]at h;obtain⟨n1,r1,b1⟩:=g1;dsimp only at h;obtain⟨g2,hg2⟩:∃g2,(if 1<zM n0 then qc r1 b1 255 else(0,r1,b1))=g2:=⟨_,rfl⟩
 rw[hg2]at h;obtain⟨n2,r2,b2⟩:=g2;simp only[Prod.mk.injEq]at h;obtain⟨⟨rfl,rfl,rfl⟩,rfl,rfl⟩:=h;have hb1:b1=false:=by
  cases b1
  ·rfl
  ·split at hg2
   ·rw[q1h]at hg2;simp at hg2
   ·simp at hg2
 subst hb1;have hb0:b0=false:=by
  cases b0
  ·rfl
  ·split at hg1
   ·rw[q1h]at hg1;simp at hg1
   ·simp at hg1
 subst hb0;obtain⟨e0,o0,o1⟩:=q3f hl hg;have hl0:∀b ∈r0,0≤b∧b≤255:=fun b hb=>hl b (by rw[e0];exact List.mem_append_right _ hb);have hop:n0=0∨0≤zM n0:=by
  rcases Int.lt_or_le 0 n0 with g|g
  ·exact .inr ((qev n0).mpr ⟨g,o1⟩)
  ·exact .inl (by omega)
 have hz:zM 0= -1:=by decide
 by_cases c1:0<zM n0
 ·rw[Xb c1]at hg1;obtain⟨e1,a0,a1⟩:=q3f hl0 hg1;have hl1:∀b ∈r1,0≤b∧b≤255:=fun b hb=>hl0 b (by rw[e1];exact List.mem_append_right _ hb);by_cases c2:1<zM n0
  ·rw[Xb c2]at hg2;obtain⟨e2,q0,q1⟩:=q3f hl1 hg2;refine⟨?_,o0,o1,a0,a1,q0,q1,.inr (VO.mpr ⟨by omega,.inl (by omega),.inl (by omega),a0,a1,q0,q1⟩)⟩;unfold vA;rw[Xb c1,Xb c2,Xu,Xu,←e2,←e1];exact e0
  ·rw[Xa c2]at hg2;simp only[Prod.mk.injEq]at hg2;obtain⟨rfl,rfl,_⟩:=hg2;refine⟨?_,o0,o1,a0,a1,by omega,by omega,.inr (VO.mpr ⟨by omega,.inl (by omega),.inr rfl,a0,a1,by omega,by omega⟩)⟩;unfold vA;rw[Xb c1,Xa c2,List.append_nil,Xu,←e1];exact e0
 ·have c2:¬1<zM n0:=by omega
  rw[Xa c1]at hg1;simp only[Prod.mk.injEq]at hg1;obtain⟨rfl,rfl,_⟩:=hg1;rw[Xa c2]at hg2;simp only[Prod.mk.injEq]at hg2;obtain⟨rfl,rfl,_⟩:=hg2;refine⟨?_,o0,o1,by omega,by omega,by omega,by omega,?_⟩
  ·unfold vA;rw[Xa c1,Xa c2,List.append_nil,List.append_nil];exact e0
  ·rcases hop with g|g
   ·exact .inl g
   ·exact .inr (VO.mpr ⟨g,.inr rfl,.inr rfl,by omega,by omega,by omega,by omega⟩)
theorem qjj(op a b:Int):∀c ∈vA op a b,0≤c∧c≤255:=by
 intro c hc;unfold vA at hc;rcases Xn.mp hc with h|h
 ·exact vE _ c h
 ·rcases Xn.mp h with h|h
  ·split at h
   ·exact vE _ c h
   ·simp at h
  ·split at h
   ·exact vE _ c h
   ·simp at h
theorem qs2{op a b:Int}(h:qf op a b=true):1≤(vA op a b).length∧(vA op a b).length≤5:=by
 obtain⟨o0,o1,a0,a1,b0,b1⟩:=Qr h;have l0:=q2f 0 op.toNat (by omega)
 have l1:=q2f 1 a.toNat (by omega)
 have l2:=q2f 1 b.toNat (by omega)
 have p0:=kp op.toNat
 unfold vA;simp only[Xe];split<;>split<;>(try simp only[List.length_nil])<;>omega
def Rd(w:World)(N:Nat)(rest:List Int)(bad:Bool):Prop:=
 ∃(A:Option Addr) (cap:Nat) (xs:List Int),w.heap[N]? =some (.cells #[.slice A xs.length cap,.bool bad] 171 (0,0))∧zq w N A (xs.map (Value.int .u8))∧xs.length≤cap∧cap≤9223372036854775807∧(bad=false→xs=rest)
theorem Rd.lt{w:World}{N:Nat}{rest:List Int}{bad:Bool}(h:Rd w N rest bad):N<w.heap.size:=by
 obtain⟨A,cap,xs,hh,_⟩:=h;exact lt_of_block hh
theorem Rd.keep{w w':World}{N:Nat}{rest:List Int}{bad:Bool}(h:Rd w N rest bad)(hb:Below w.heap.size w w'):Rd w' N rest bad:=by
 have hlt:=h.lt;obtain⟨A,cap,xs,hh,hl,h1,h2,h3⟩:=h;exact⟨A,cap,xs,by rw[hb.block N hlt];exact hh,hl.below_to hb (by omega),h1,h2,h3⟩
theorem Rd.more{w:World}{N:Nat}{rest rest':List Int}(h:Rd w N rest true):Rd w N rest' true:=by
 obtain⟨A,cap,xs,hh,hl,h1,h2,h3⟩:=h;exact⟨A,cap,xs,hh,hl,h1,h2,fun h=>by cases h⟩
theorem q34{w:World}{b:Nat}{u v:Value}{t:TypeId}(h:w.heap[b]? =some (.cells #[u,v] t (0,0))):w.cell? ⟨b,0,none⟩=some u:=by simp[World.cell?,h]
theorem q33{w:World}{b:Nat}{u v:Value}{t:TypeId}(h:w.heap[b]? =some (.cells #[u,v] t (0,0))):w.cell? ⟨b,1,none⟩=some v:=by simp[World.cell?,h]
theorem q3h{w:World}{b i:Nat}{u v:Value}{t:TypeId}(h:w.heap[b]? =some (.cells #[u,v] t (0,0))):w.frozen? ⟨b,i,none⟩=false:=by simp[World.frozen?,h]
theorem q62{w:World}{b:Nat}{u v x:Value}{t:TypeId}(h:w.heap[b]? =some (.cells #[u,v] t (0,0))):(w.setCell ⟨b,0,none⟩ x).heap[b]? =some (.cells #[x,v] t (0,0)):=by
 have hlt:=lt_of_block h;have h':w.heap[b]= .cells #[u,v] t (0,0):=by simpa[Array.getElem?_eq_getElem hlt]using h
 show(w.heap.modify b _)[b]? =_;rw[Array.getElem?_eq_getElem (by simpa using hlt),Array.getElem_modify_self,h'];rfl
theorem qco{w:World}{b:Nat}{u v x:Value}{t:TypeId}(h:w.heap[b]? =some (.cells #[u,v] t (0,0))):(w.setCell ⟨b,1,none⟩ x).heap[b]? =some (.cells #[u,x] t (0,0)):=by
 have hlt:=lt_of_block h;have h':w.heap[b]= .cells #[u,v] t (0,0):=by simpa[Array.getElem?_eq_getElem hlt]using h
 show(w.heap.modify b _)[b]? =_;rw[Array.getElem?_eq_getElem (by simpa using hlt),Array.getElem_modify_self,h'];rfl
theorem qfw{w:World}{base e n:Nat}{v:Value}{xs:List Value}(h:w.ownsRow base e 1 v n xs):∃A c,v= .slice A n c∧zq w w.heap.size A xs∧n≤c∧c≤9223372036854775807:=by
 rcases h.2 with⟨rfl,rfl⟩|⟨g,cap,cur,rfl,hb,hh,h1,h2,_⟩
 ·exact⟨none,0,rfl,zq.of_own h,zn _,by omega⟩
 ·exact⟨_,cap,rfl,zq.of_own h,h1,by unfold maxLen at h2;omega⟩
def NewOut(l:List Int)(w:World)(e:Ending)(w':World):Prop:=
 ∃N,e= .returned (.pointer (some ⟨N,0,none⟩))∧w.heap.size≤N∧Rd w' N l false∧Below w.heap.size w w'
theorem qtv(l:List Int)(A:Option Addr)(cap B:Nat)(w:World)(hl:l.length≤1048576)(hr:∀b ∈l,0≤b∧b≤255)(hA:A=none→cap=0)(hB:B≤w.heap.size)(h:zq w B A (l.map (Value.int .u8))):
  Calls Tryz.prog 68 #[.slice A l.length cap] w (NewOut l w):=by
 obtain⟨i0,hi,hz0,hz1,hz2⟩:=info_parts q08;have HL:=zH h;have HA:=zH hA;clear h hr hA;go_enter Tryz.func68,Tryz.ntmps68;go_wp2_with(at_builtin;refine QR rfl _ _ 40 rfl w.heap.size 5 i0 (.int .u8 0) 1 Tryz.underlying40 hi hz0 hz1 hz2 rfl _ _ _ rfl (XQ _ _ _ _) A l.length cap _ (l.map (Value.int .u8)) (by simp) rfl HA.out HL.out (jC _) (by unfold maxLen;omega) (by omega) (zn _) ?_;intro v2 w2 hown2 hgrow2;obtain⟨A2,c2,rfl,hl2,hc2,hm2⟩:=qfw (qsd hown2);have HL2:=zH hl2;have HB:=zH ((zb w.heap.size w).grown hgrow2 (zn _) (fun k hk=>by cases hk));clear hown2 hgrow2 hl2)
 go_ret;exact⟨w2.heap.size,rfl,HB.out.size,⟨A2,c2,l,Xw _ _,HL2.out.below_to ((zb w2.heap.size w2).alloc (zn _) _) (zn _),hc2,hm2,fun _=>rfl⟩,HB.out.alloc HB.out.size _⟩
def q3x(k:IntKind)(N B:Nat)(n:Int)(rest:List Int)(bad:Bool)(w:World)(e:Ending)(w':World):Prop:=
 e= .returned (.int k n)∧Rd w' N rest bad∧Below B w w'
theorem YQ(N:Nat)(rest:List Int)(bad:Bool)(w:World)(h:Rd w N rest bad):
  Calls Tryz.prog 122 #[.pointer (some ⟨N,0,none⟩)] w fun e w'=>e= .returned (.bool bad)∧w=w':=by
 obtain⟨A,cap,xs,hh,_⟩:=h;have c1:=q33 hh;clear hh;cases bad;all_goals
  go_enter Tryz.func122,Tryz.ntmps122;go_wp2
  go_ret;exact⟨rfl,rfl⟩
theorem qtx(N:Nat)(rest:List Int)(bad:Bool)(w:World)(h:Rd w N rest bad):
  Calls Tryz.prog 70 #[.pointer (some ⟨N,0,none⟩)] w fun e w'=>e= .returned (.bool (!bad&& rest.isEmpty))∧Below w.heap.size w w':=by
 have HR:=zH h;obtain⟨A,cap,xs,hh,hl,h1,h2,h3⟩:=h;have c0:=q34 hh;clear hh hl;cases bad
 ·obtain rfl:=h3 rfl;clear h3;by_cases hx:xs.length=0
  ·have E:=zH (show xs.isEmpty=true by simpa using hx);have hx':xs.length<1:=by omega
   have hx'':((xs.length:Int)==0)=true:=by simpa using hx
   clear hx;go_enter Tryz.func70,Tryz.ntmps70;go_wp2_with(go_at_call 122;(with_reducible refine(YQ _ _ _ _ HR.out).mono ?_);rintro e w' ⟨rfl,rfl⟩)
   go_ret;exact⟨by rw[E.out];rfl,zb _ _⟩
  ·have E:=zH (show xs.isEmpty=false by cases xs with
    |nil=>exact absurd rfl hx
    |cons _ _=>rfl)
   have hx':1≤xs.length:=by omega
   have hx'':((xs.length:Int)==0)=false:=by simpa using hx
   clear hx;go_enter Tryz.func70,Tryz.ntmps70;go_wp2_with(go_at_call 122;(with_reducible refine(YQ _ _ _ _ HR.out).mono ?_);rintro e w' ⟨rfl,rfl⟩)
   go_ret;exact⟨by rw[E.out];rfl,zb _ _⟩
 ·clear h3;go_enter Tryz.func70,Tryz.ntmps70;go_wp2_with(go_at_call 122;(with_reducible refine(YQ _ _ _ _ HR.out).mono ?_);rintro e w' ⟨rfl,rfl⟩)
  go_ret;exact⟨rfl,zb _ _⟩
theorem qf4{w:World}{N n c s:Nat}{A A':Option Addr}{cap:Nat}{xs:List Int}(h:w.heap[N]? =some (.cells #[.slice A xs.length cap,.bool false] 171 (0,0)))(hl:zq w N A (xs.map (Value.int .u8)))
  (hn:n=(xs.drop s).length) (hc:n≤c) (hm:c≤9223372036854775807) (hl':zq w N A' ((xs.drop s).map (Value.int .u8))):Rd (w.setCell ⟨N,0,none⟩ (.slice A' n c)) N (xs.drop s) false:=by
 subst hn;exact⟨A',c,xs.drop s,q62 h,hl'.below ((zb N w).setCell (zn _) _),hc,hm,fun _=>rfl⟩
theorem rd_bad{w:World}{N:Nat}{u v:Value}{l:List Int}(h:w.heap[N]? =some (.cells #[u,v] 171 (0,0))):Rd ((w.setCell ⟨N,0,none⟩ (.slice none 0 0)).setCell ⟨N,1,none⟩ (.bool true)) N l true:=
 ⟨none,0,[],qco (q62 h),zq.nil,zn _,by omega,fun h=>by cases h⟩
def jz(N:Nat)(w w':World):Prop:=w'.heap.size=w.heap.size∧∀b,b≠N→w'.heap[b]? =w.heap[b]?
theorem jz.refl(N:Nat)(w:World):jz N w w:=⟨rfl,fun _ _=>rfl⟩
theorem jz.trans{N:Nat}{w w1 w2:World}(h:jz N w w1)(g:jz N w1 w2):jz N w w2:=⟨g.1.trans h.1,fun b hb=>(g.2 b hb).trans (h.2 b hb)⟩
theorem jz.setCell{N:Nat}{w w1:World}(h:jz N w w1)(i:Nat)(v:Value):jz N w (w1.setCell ⟨N,i,none⟩ v):=by
 refine⟨by simpa using h.1,fun b hb=>Eq.trans ?_ (h.2 b hb)⟩;show(w1.heap.modify N _)[b]? =_;rw[Array.getElem?_modify,Xa (fun g=>hb g.symm)]
theorem jz.cell{N:Nat}{w w':World}(h:jz N w w'){p:Addr}(hp:p.block≠N):w'.cell? p=w.cell? p:=by
 have e:=h.2 p.block hp;simp[World.cell?,e]
theorem jz.frozen{N:Nat}{w w':World}(h:jz N w w'){p:Addr}(hp:p.block≠N):w'.frozen? p=w.frozen? p:=by
 have e:=h.2 p.block hp;simp[World.frozen?,e]
theorem qdc{P:Prop}(h:P:=by
 rw[E.out];go_enter Tryz.func121,Tryz.ntmps121;go_wp2_with(first
  |(go_at_call 122;(with_reducible refine(YQ _ _ _ _ HR.out).mono ?_);rintro e w' ⟨rfl,rfl⟩)
  |(go_at_call 163;(with_reducible refine(q57 xs _ _ _ _ h1 h2 HX.out HL.out).mono ?_);rintro e w' ⟨he,rfl⟩;rw[HP.out]at he;subst he))
 go_ret;exact⟨⟨rfl,rd_bad HH.out,((zb B w).setCell HB.out _).setCell HB.out _⟩,((jz.refl N w).setCell _ _).setCell _ _⟩):P:=h
theorem q5z(N B:Nat)(rest:List Int)(bad:Bool)(most:Int)(w:World)(hl:rest.length≤1048576)(hr:∀b ∈rest,0≤b∧b≤255)(hBN:B≤N)(h:Rd w N rest bad):
  Calls Tryz.prog 121 #[.pointer (some ⟨N,0,none⟩),.int .i64 most] w fun e w'=>q3x .i64 N B (qc rest bad most).1 (qc rest bad most).2.1 (qc rest bad most).2.2 w e w'∧jz N w w':=by
 have HR:=zH h;have HB:=zH hBN;obtain⟨A,cap,xs,hh,hla,h1,h2,h3⟩:=h;have c0:=q34 hh;have c1:=q33 hh;have f0:w.frozen? ⟨N,0,none⟩=false:=q3h hh;have f1:w.frozen? ⟨N,1,none⟩=false:=q3h hh;have HH:=zH hh;have HL:=zH hla;clear hh hla hBN;cases bad
 ·obtain rfl:=h3 rfl;have HX:=zH hr;clear h3 hr;obtain⟨p,hp⟩:∃p,jc xs=p:=⟨_,rfl⟩
  obtain⟨n,s⟩:=p;have HP:=zH hp;have HB5:Hid (0<s→n<34359738368∧s≤xs.length):=zH (fun g=>by have:=qbh (l:=xs) HX.out (by rw[hp];exact g);rw[hp]at this;exact⟨this.1,this.2.2.2⟩);have HZ:Hid (s=0→n=0):=zH (fun g=>by have:=qom (l:=xs) (by rw[hp];exact g);rw[hp]at this;exact this);clear hp;by_cases h0:s=0
  ·obtain rfl:=HZ.out h0;subst h0;have E:=zH (show qc xs false most=(0,xs,true)by unfold qc;rw[HP.out];simp);exact qdc
  ·obtain⟨g1,g2⟩:=HB5.out (by omega);have hs1:((s:Int)==0)=false:=by simpa using h0
   by_cases hm:(n:Int)≤most
   ·have E:=zH (show qc xs false most=((n:Int),xs.drop s,false)by unfold qc;rw[HP.out];simp[hm];omega);rw[E.out];clear h0;by_cases hcs:cap=s
    ·subst hcs;go_enter Tryz.func121,Tryz.ntmps121;go_wp2_with(first
      |(go_at_call 122;(with_reducible refine(YQ _ _ _ _ HR.out).mono ?_);rintro e w' ⟨rfl,rfl⟩)
      |(go_at_call 163;(with_reducible refine(q57 xs _ _ _ _ h1 h2 HX.out HL.out).mono ?_);rintro e w' ⟨he,rfl⟩;rw[HP.out]at he;subst he))
     go_ret;exact⟨⟨rfl,qf4 HH.out HL.out (by simp;omega) (zn _) (by omega) (by rw[List.drop_eq_nil_of_le (by omega)];exact zq.nil),(zb B w).setCell HB.out _⟩,(jz.refl N w).setCell _ _⟩
    ·go_enter Tryz.func121,Tryz.ntmps121;go_wp2_with(first
      |(go_at_call 122;(with_reducible refine(YQ _ _ _ _ HR.out).mono ?_);rintro e w' ⟨rfl,rfl⟩)
      |(go_at_call 163;(with_reducible refine(q57 xs _ _ _ _ h1 h2 HX.out HL.out).mono ?_);rintro e w' ⟨he,rfl⟩;rw[HP.out]at he;subst he))
     go_ret;exact⟨⟨rfl,qf4 HH.out HL.out (by simp) (by omega) (by omega) (by have:=HL.out.drop_ s;rwa [←List.map_drop]at this),(zb B w).setCell HB.out _⟩,(jz.refl N w).setCell _ _⟩
   ·have E:=zH (show qc xs false most=(0,xs,true)by unfold qc;rw[HP.out];simp[hm]);exact qdc
 ·have E:=zH (show qc rest true most=(0,rest,true)by unfold qc;rw[Xa (by simp)]);rw[E.out];clear h3 hr;go_enter Tryz.func121,Tryz.ntmps121;go_wp2_with(go_at_call 122;(with_reducible refine(YQ _ _ _ _ HR.out).mono ?_);rintro e w' ⟨rfl,rfl⟩)
  go_ret;exact⟨⟨rfl,HR.out,zb _ _⟩,jz.refl _ _⟩
section
variable{w:World}{N B:Nat}{rest rest':List Int}{bad bad':Bool}{n most:Int}
theorem q73(HR:Hid (Rd w N rest bad))(E:Hid ((!bad&& rest.isEmpty)=bad')):Calls Tryz.prog 70 #[.pointer (some ⟨N,0,none⟩)] w fun e w'=>e= .returned (.bool bad')∧Below w.heap.size w w':=by
 have h:=qtx N rest bad w HR.out;rw[E.out]at h;exact h
end
theorem q9y(rest:List Int)(bad:Bool)(most:Int)(hm:0≤most):0≤(qc rest bad most).1∧(qc rest bad most).1≤most:=by
 unfold qc;split
 ·rename_i h;exact⟨by omega,h.2.2⟩
 ·exact⟨XE 0,hm⟩
theorem qfn(N B:Nat)(rest:List Int)(bad:Bool)(w:World)(hl:rest.length≤1048576)(hr:∀b ∈rest,0≤b∧b≤255)(hBN:B≤N)(h:Rd w N rest bad):
  Calls Tryz.prog 159 #[.pointer (some ⟨N,0,none⟩)] w fun e w'=>q3x .i32 N B (zag (qc rest bad 4294967295).1) (qc rest bad 4294967295).2.1 (qc rest bad 4294967295).2.2 w e w'∧jz N w w':=by
 obtain⟨r0,r1⟩:=q9y rest bad 4294967295 (by decide);obtain⟨g,hg⟩:∃g,qc rest bad 4294967295=g:=⟨_,rfl⟩
 obtain⟨n,rest',bad'⟩:=g;have HC:=zH (q5z N B rest bad 4294967295 w hl hr hBN h);rw[hg]at HC r0 r1;rw[hg];dsimp only at HC r0 r1⊢
 clear h hr hg;by_cases hn:n % 2=0
 ·have Z:=zH (show zag n=n / 2 by unfold zag;rw[Xb hn]);have hn':¬n % 2=1:=by omega
  clear hn;go_enter Tryz.func159,Tryz.ntmps159;go_wp2_with(go_at_call 121;(with_reducible refine HC.out.mono ?_);rintro e w' ⟨⟨rfl,hrd,hb⟩,hs⟩;have H1:=zH hrd;have H2:=zH hb;have H3:=zH hs;clear hrd hb hs)
  go_ret;exact⟨⟨q6u (by rw[Z.out]),H1.out,H2.out⟩,H3.out⟩
 ·have Z:=zH (show zag n= -((n+1) / 2)by unfold zag;rw[Xa hn]);have hn':n % 2=1:=by omega
  have hn'':(n % 2==1)=true:=by rw[hn'];rfl
  clear hn hn';go_enter Tryz.func159,Tryz.ntmps159;go_wp2_with(go_at_call 121;(with_reducible refine HC.out.mono ?_);rintro e w' ⟨⟨rfl,hrd,hb⟩,hs⟩;have H1:=zH hrd;have H2:=zH hb;have H3:=zH hs;clear hrd hb hs)
  go_ret;exact⟨⟨q6u (by rw[Z.out];have e:=Int.tdiv_eq_ediv_of_nonneg (a:=n+1) (b:=2) (by omega);rw[e];unfold wrap64 wrap32;omega),H1.out,H2.out⟩,H3.out⟩
end Go.Proofs.YtcmiljnbmgkdnaaGreat
