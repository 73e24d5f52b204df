import Derived.Test.YtcmiljnbmgkdnaaGreatFB02
import Derived.RangeFuncNested
import Derived.RangeFuncBound
import Derived.RangeFuncBox
import Derived.RangeFuncLeaves
import Derived.Shelf.Abstract
import Derived.Shelf.RegionOpen
import Derived.TacticsInMore
import Derived.LoopNIn
import Derived.LoopIn
namespace Go.Proofs.YtcmiljnbmgkdnaaGreat
set_option maxRecDepth 100000
set_option linter.unusedVariables false
set_option linter.unusedSimpArgs false
open Go.ChangeShapes Go.WideShapes Go.ChangeAt Go.RowKit
theorem JS:(Tryz.prog.info? 50).map (fun i=>(i.zero,i.size,i.bytes))=some (some (.agg #[.int .i64 0,.int .i64 0]),2,16):=by kernel_rfl
theorem jU{P:Program}{t:TypeId}{z:Value}{k b:Nat}(h:(P.info? t).map (fun i=>(i.zero,i.size,i.bytes))=some (some z,k,b)):∃i,P.info? t=some i∧i.zero=some z∧i.size=k∧i.bytes=b:=by
 cases hi:P.info? t with
 |none=>rw[hi]at h;simp at h
 |some i=>
  rw[hi]at h;simp only[Option.map_some,Option.some.injEq,Prod.mk.injEq]at h;exact⟨i,rfl,h.1,h.2.1,h.2.2⟩
def QT(l:List (Int×Int))(w:World)(e:Ending)(w':World):Prop:=
 ∃v,e= .returned v∧w'.ownsRow w.heap.size 50 2 v l.length (qk l)∧Below w.heap.size w w'
theorem qde{w:World}{B:Nat}{A:Option Addr}{l:List Int}(h:zq w B A (l.map (Value.int .i64))){k:Nat}(hk:k<l.length):∃ad,A=some ad∧ad.block<B∧w.cell? (ad.add k)=some (.int .i64 l[k]):=by
 obtain⟨ad,e,hb,hc⟩:=h.at_ (k:=k) (by simpa using hk);simp only[List.getElem_map]at hc;exact⟨ad,e,hb,hc⟩
theorem q0z{cl:List zJ}(h:∀c ∈cl,c.fields.length≤1000):∀l:List Int,(l.flatMap (ve cl)).length≤1000*l.length
 | []=>by simp
 |i::l=>by
  rw[List.flatMap_cons,Xe,XJ];have:=q0z h l;have hi:(ve cl i).length≤1000:=by
   unfold ve;split
   ·rename_i c hc;exact h c (Xs hc)
   ·simp
  omega
theorem q5e{sup U:List Int}{c:Int}{A:Option Addr}{cap n:Nat}{w:World}(HN:Hid (sup.length=n))(hn:n≤1048576)(HU:Hid (zv sup c=U))(HS:Hid (qY w w.heap.size A sup)):
  Calls Tryz.prog 71 #[.slice A n cap,.int .i64 c] w (vl U w):=by
 obtain rfl:=HN.out;have h:=qji sup c A cap w.heap.size w hn (zn _) HS.out;rw[HU.out]at h;exact h
theorem q8g{cl:List zJ}{i:Nat}(h:i<cl.length):ve cl (i:Int)=cl[i].fields:=by
 unfold ve;rw[Xi,Xc h]
set_option maxHeartbeats 1600000 in
theorem qhd(m:za)(c:Int)(h:zi)(w:World)(H:zm w w.heap.size h m)(hn:m.classes.length≤1000)(hf:∀x ∈m.classes,x.fields.length≤1000):
  Calls Tryz.prog 46 #[zp h m,.int .i64 c] w (QT (qh m.classes c) w):=by
 obtain⟨i0,hi,hz0,hz1,hz2⟩:=jU JS;have HW:=zH ((zb w.heap.size w).alloc (zn _) (zg h m));have HIM:=zH (H.now HW.out);have HBX:=zH (ql w h m);have HZ:Hid (w.heap.size<(w.alloc (zg h m)).heap.size):=zH (by simp);have HF:=zH hf;have HS:=zH (JP HIM.out.classes.row);have hsl:(zz m.classes).length=m.classes.length:=kq _;have HFO:=zH (show qh m.classes c=(zv (zz m.classes) c).reverse.flatMap (ve m.classes)from rfl);obtain⟨U,hU⟩:∃U,zv (zz m.classes) c=U:=⟨_,rfl⟩
 have hUl:U.length≤1000:=by rw[←hU];have:=q10 (zz m.classes) c;omega
 have HUm:Hid (∀i ∈U,0≤i∧i<m.classes.length):=zH (by rw[←hU];intro i hi;have:=qcd hi;omega);have HU:=zH hU;rw[hU]at HFO;have HSl:=zH hsl;clear hsl hU H hf;go_enter Tryz.func46,Tryz.ntmps46;go_upto_region 1 with fail
 generalize w.alloc (zg h m)=w1 at*
 obtain⟨q0,q1,q2,q3,q4,q5,q6⟩:=HBX.out;go_upto_region 2 with(go_at_call 71;(with_reducible refine(q5e HSl (by omega) HU HS).mono ?_);rintro e w2 ⟨v2,rfl,ho,hb⟩;have HB2:=zH hb;obtain⟨A2,c2,rfl,hl2,g1,g2⟩:=kO ho;have HL2:=zH hl2;clear hb ho hl2)
 have HI2:=zH (HIM.out.now HB2.out);clear q0 q1 q2 q3 q4 q5 q6;obtain⟨q0,q1,q2,q3,q4,q5,q6⟩:=HBX.out.keep HB2.out HZ.out;go_wp2
 go_loopw [6,7] (fun v i wr=>∃(k:Nat) (z:Int),k≤U.length∧i= .int .i64 z∧z=(k:Int) - 1∧Hid (wr.ownsRow w2.heap.size 50 2 v ((U.drop k).reverse.flatMap (ve m.classes)).length (qk ((U.drop k).reverse.flatMap (ve m.classes))))∧Hid (Below w2.heap.size w2 wr)) (fun _ i _=>(intOf i+1).toNat)
 case atStart=>exact⟨U.length,_,zn _,rfl,rfl,zH (by rw[List.drop_length];exact YE w2 _ 2),zH ((zb _ _).alloc (zn _) _)⟩
 case round=>
  clear q0 q1 q2 q3 q4 q5 q6;obtain⟨k,z,hk,rfl,hz,HO,HX⟩:=hrel;rcases k with _|j
  ·obtain rfl:z= -1:=by omega
   clear hz;go_wp2_with fail
   go_ret;refine⟨_,rfl,?_,HW.out.trans ((HB2.out.trans (HX.out.mono HB2.out.size)).mono (Xh HZ.out))⟩;rw[HFO.out];exact ja (by simpa using HO.out) (Xd (Xh HZ.out) HB2.out.size)
  ·obtain rfl:z=(j:Int):=by omega
   clear hz;have hjl:j<U.length:=hk;obtain⟨q0,q1,q2,q3,q4,q5,q6⟩:=HBX.out.keep (HB2.out.trans (HX.out.mono HB2.out.size)) HZ.out;obtain⟨ad,rfl,had,hc⟩:=qde HL2.out hjl;obtain⟨u0,u1⟩:=HUm.out U[j] (Xf hjl);have HT:Hid ((U.drop j).reverse.flatMap (ve m.classes)=(U.drop (j+1)).reverse.flatMap (ve m.classes)++ve m.classes U[j]):=zH (by rw[Wq hjl,List.reverse_cons,Wd,List.flatMap_singleton]);have hsum:=q0z HF.out (U.drop (j+1)).reverse;have hsl:(U.drop (j+1)).reverse.length≤1000:=by rw[List.length_reverse,XT];omega
   generalize U[j]=u at*
   obtain⟨n,rfl⟩:=Xq u0;have hnl:n<m.classes.length:=by omega
   have hfx:=HF.out _ (Xf hnl);have HFA:=zH (q8g hnl);obtain⟨adc,e0,hab,hcl⟩:=HI2.out.classes.row.at_ hnl;generalize m.classes[n]=x at*
   rw[HFA.out]at HT;obtain⟨L,hL⟩:∃L,(U.drop (j+1)).reverse.flatMap (ve m.classes)=L:=⟨_,rfl⟩
   rw[hL]at HT HO hsum;have hLl:L.length≤1000000:=by omega
   obtain⟨s0,⟨A1,k1,s1,hs1⟩,_⟩:=hcl;rw[e0]at q0;have HC2:Hid (∀W,Below w2.heap.size w2 W→W.cell? (ad.add j)=some (.int .i64 (n:Int))):=zH (fun W hW=>(hW.cell (p:=ad.add j) (by rw[zu];exact had)).trans hc);have HS2:Hid (∀W,Below w2.heap.size w2 W→W.cell? (zf (adc.add (n*3)) 1)=some (.slice A1 x.fields.length k1)):=zH (fun W hW=>(hW.cell (p:=zf (adc.add (n*3)) 1) (by show(adc.add _).block<_;rw[zu];exact hab)).trans s1);have HQ2:Hid (∀W,Below w2.heap.size w2 W→W.cell? ⟨w.heap.size,0,none⟩=some (.slice (some adc) m.classes.length h.c0)):=zH (fun W hW=>by have:=(HBX.out.keep (HB2.out.trans (hW.mono HB2.out.size)) HZ.out).1;rw[e0]at this;exact this);have hc:=HC2.out _ HX.out;have s1:=HS2.out _ HX.out;have HTL:=zH (YZ (hs1.below_to zc.keeps HX.out (zn _)).row);have bc1:=HI2.out.classes.le;have bc2:=HI2.out.classes.cap;have hs2:=hs1.le;have hs3:=hs1.cap;have hsz:=HX.out.size;clear e0 hs1 hL hsum hsl s0 u0 u1;go_upto_region 6 with fail
   have HO:Hid (wr.drew.ownsRow w2.heap.size 50 2 u6 L.length (qk L)):=HO;have HX:Hid (Below w2.heap.size w2 wr.drew):=zH HX.out.drew;have HTL:Hid (zq wr.drew w2.heap.size A1 (qk x.fields)):=HTL;have hsz:w2.heap.size≤wr.drew.heap.size:=hsz;refine wp_region_noPanic ?_;refine wp_region_held_drew (S:=(fun w'=>w'.cell? ⟨w.heap.size,0,none⟩=some (.slice (some adc) m.classes.length h.c0)∧w'.cell? (ad.add j)=some (.int .i64 (n:Int))∧w'.cell? (zf (adc.add (n*3)) 1)=some (.slice A1 x.fields.length k1))) (by kernel_rfl) ⟨q0,hc,s1⟩ (fun hHeld=> ?_);refine mT 0 (h:=mT 1 (h:=mT 2 (h:=mT 3 (h:=mT 4 (h:=mT 5 (h:=mT 6 (h:=mT 7 (h:= ?_))))))));refine mT 8 (h:=mT 9 (h:= ?_));refine wpAnyH_ready (rs:=[10]) (by kernel_rfl) (by simp) ?_;refine AllReadyH.cons (o:=_) rfl (fun K hK=> ?_) AllReadyH.nil
   (refine q13 rfl _ _ 23 rfl w2.heap.size 50 i0 (.agg #[.int .i64 0,.int .i64 0]) 2 16 Tryz.underlying23 hi hz0 hz1 hz2 rfl (by decide) _ L.length (qk L) rfl HO.out A1 x.fields.length k1 _ (qk x.fields) (JU _) rfl HTL.out (Jn _) (by unfold maxLen;omega) (by omega) hsz ?_;intro v6 w6 hown hgrow;have HX6:=zH (jV HX.out HO.out hsz hgrow);have HO6:=zH hown;clear hown hgrow)
   refine hK.out _ _ ⟨HQ2.out _ HX6.out,HC2.out _ HX6.out,HS2.out _ HX6.out⟩ (fun hHeld=> ?_);clear hK K;try simp only[sA,sB,sC,Act.put,sD,sE,sF]
   refine mT 11 (h:= ?_);refine wpAnyH_done (by kernel_rfl) ?_ _;refine NoPanic.normal ?_;go_wp2_with fail
   go_roundw;case rel=>
    refine⟨j,(j:Int) - 1,by omega,by go_num,rfl,zH ?_,HX6⟩;rw[HT.out];unfold qk at HO6⊢
    rw[Wd,Xe];exact HO6.out
   case measure=>simp[intOf]
section
variable{m:za}{h:zi}{w0 w:World}{c:Int}
theorem qjc{L:List (Int×Int)}(HI:Hid (zm w0 w0.heap.size h m))(HX:Hid (Below w0.heap.size w0 w))(HL:Hid (qh m.classes c=L))(hn:m.classes.length≤1000)(HF:Hid (∀x ∈m.classes,x.fields.length≤1000)):
  Calls Tryz.prog 46 #[zp h m,.int .i64 c] w (QT L w):=by
 have H:=qhd m c h w (HI.out.now HX.out) hn HF.out;rw[HL.out]at H;exact H
end
theorem q4a{cl:List zJ}(h:∀c ∈cl,c.fields.length≤1000)(hn:cl.length≤1000)(c:Int):(qh cl c).length≤1000000:=by
 have h1:=q0z h (zv (zz cl) c).reverse;have h2:=q10 (zz cl) c;rw[kq]at h2;rw[List.length_reverse]at h1;show((zv (zz cl) c).reverse.flatMap (ve cl)).length≤1000000;omega
def jO(x:zh):List (Int×Int):=if x.ret.1=5 then []else [x.ret]
def zw(m:za)(a:Int):zh:=m.methods[a.toNat]?.getD ⟨[],[],(0,0),[],0,0,[]⟩
def JA(m:za)(a b:Int):Int×Int:=(qh m.classes a)[b.toNat]?.getD (0,0)
def Jr(m:za)(a:Int):Int×Int:=m.statics[a.toNat]?.getD (0,0)
def kY(m:za)(a b:Int):Int:=(jP m.classes a b).getD 0
def vu(m:za)(x:zh)(op a b:Int):List (Int×Int):=
 if op=4 then [qM x a]else if op=5 then [(0,0)]else if op=19 then [(1,0)]else if op=20 then [(4,0)]else if op=21 then [(4,0),(4,0)]else
 if op=23 then [(1,0)]else if op=24 then [(2,0),(1,0)]else if op=25 then [(2,0),(1,0),(1,0)]else if op=26 then [(2,0)]else if op=27 then [(3,a)]else
 if op=28 then [(3,a),JA m a b]else if op=30 then [Jr m a]else if op=34 then [(4,0)]else if op=33 then jO x else
 if op=31 then(zw m a).args else if op=32 then(3,a)::(zw m (kY m a b)).args.drop 1 else
 if 7≤op∧op≤17 then [(1,0),(1,0)]else []
def jg(m:za)(x:zh)(op a b:Int):List (Int×Int):=
 if op=1 then [(1,0)]else if op=2 then [(4,0)]else if op=3 then [qM x a]else if op=20 then [(1,0)]else if op=21 then [(1,0)]else if op=22 then [(3,a)]else
 if op=23 then [(2,0)]else if op=24 then [(1,0)]else if op=26 then [(1,0)]else if op=27 then [JA m a b]else if op=29 then [Jr m a]else
 if op=34 then [(3,a)]else if op=31 then jO (zw m a)else if op=32 then jO (zw m (kY m a b))else
 if 7≤op∧op≤17 then [(1,0)]else []
def Zf(sup:List Int)(op:Int)(have_ want:Int×Int):Bool:=
 if want.1=0 then true else if want.1=4 then kT have_.1&& !(decide (op=34)&& decide (have_.1=2))else zA sup have_.1 have_.2 want.1 want.2
def qU(pc op a:Int):List Int:=if op=18 then [a]else if op=19 then [pc+1,a]else if op=33 then []else [pc+1]
structure QK where
 after:List (Int×Int)
 next:List Int
 err:Int
deriving DecidableEq
def jf(e:Int):QK:=⟨[],[],e⟩
def takes(m:za)(x:zh)(op a b:Int)(st:List (Int×Int)):List (Int×Int):=if op=6∧st≠ []then [(0,0)]else vu m x op a b
def kI(m:za)(x:zh)(op a b:Int)(st:List (Int×Int)):List (Int×Int):=if op=6∧st≠ []then [st.getLast?.getD (0,0),st.getLast?.getD (0,0)]else jg m x op a b
def qX(m:za)(x:zh)(pc op a b:Int)(st:List (Int×Int)):QK:=
 if(qU pc op a).head?.any (fun n=>decide ((x.code.length:Int)≤n))=true then jf 4 else
 if(op=6∧st=[])∨st.length<(takes m x op a b st).length∨8<st.length - (takes m x op a b st).length+(kI m x op a b st).length then jf 4 else
 if((st.drop (st.length - (takes m x op a b st).length)).zip (takes m x op a b st)).all (fun p=>Zf (zz m.classes) op p.1 p.2)=true then
  ⟨st.take (st.length - (takes m x op a b st).length)++kI m x op a b st,qU pc op a,0⟩else jf 4
def zR(m:za)(f pc:Int)(st:List (Int×Int)):QK:=
 if 0≤f∧f<m.methods.length∧0≤pc∧pc<(zw m f).code.length then
  match(zw m f).code[pc.toNat]? with
  |some i=>qX m (zw m f) pc i.1 i.2.1 i.2.2 st
  |none=>jf 1
 else jf 1
def qP(sup:List Int)(c:Int):Nat→List Int
 |0=> []
 |k+1=>if zX (zv sup k) c then qP sup c k++[(k:Int)]else qP sup c k
def Zr(cl:List zJ)(c:Int):List Int:=qP (zz cl) c cl.length
theorem VE(sup:List Int)(c:Int):∀k,(qP sup c k).length≤k
 |0=>zn _
 |k+1=>by
  unfold qP;have:=VE sup c k;split
  ·simp;omega
  ·omega
theorem q0v(sup:List Int)(c:Int):∀(k:Nat) (x:Int),x ∈qP sup c k↔0≤x∧x<k∧zX (zv sup x) c=true
 |0,x=>by simp[qP];omega
 |k+1,x=>by
  unfold qP;have ih:=q0v sup c k x;split
  ·rename_i g;rw[Xn,ih,XL];constructor
   ·rintro(⟨a,b,d⟩|rfl)
    ·exact⟨a,by omega,d⟩
    ·exact⟨by omega,by omega,g⟩
   ·rintro⟨a,b,d⟩;by_cases e:x=k
    ·exact .inr e
    ·exact .inl ⟨a,by omega,d⟩
  ·rename_i g;rw[ih];constructor
   ·rintro⟨a,b,d⟩;exact⟨a,by omega,d⟩
   ·rintro⟨a,b,d⟩;refine⟨a,?_,d⟩;by_cases e:x=k
    ·subst e;exact absurd d g
    ·omega
theorem q4b(sup:List Int)(c:Int):∀k,(qP sup c k).Pairwise (· < ·)
 |0=>List.Pairwise.nil
 |k+1=>by
  unfold qP;split
  ·rw[Wh];refine⟨q4b sup c k,by simp,fun a ha b hb=> ?_⟩;rw[XL]at hb;subst hb;exact((q0v sup c k a).mp ha).2.1
  ·exact q4b sup c k
theorem qgu{sup:List Int}{c:Nat}(h:c<sup.length):qP sup c (c+1)=[(c:Int)]:=by
 have e:qP sup (c:Int) c=[]:=by
  apply List.eq_nil_iff_forall_not_mem.mpr;intro x hx;obtain⟨h0,h1,h2⟩:=(q0v sup c c x).mp hx;have:=vP (QV.mp h2);omega
 unfold qP;rw[Xb (QV.mpr (VJ (by omega) (by omega))),e];rfl
theorem qma{sup:List Int}{c:Int}(h:c<0∨(sup.length:Int)≤c)(k:Nat)(hk:k≤sup.length):qP sup c k=[]:=by
 apply List.eq_nil_iff_forall_not_mem.mpr;intro x hx;obtain⟨h0,h1,h2⟩:=(q0v sup c k x).mp hx;have:=vP (QV.mp h2);omega
theorem q1m(w:World)(z:Int){N:Nat}{T:TypeId}(hN:w.heap.size=N:=by rfl):∀j u,[Value.int .i64 z][j]? =some u→(w.alloc (.cells #[.int .i64 z] T)).cell? ((⟨N,0,none⟩:Addr).add j)=some u:=by
 subst hN;intro j u hj
 match j,hj with
 |0,hj=>simp at hj;subst hj;simp[Addr.add]
theorem q1e(z:Int):∀u ∈ [Value.int .i64 z],u.oneCell'=true:=by intro u hu;simp at hu;subst hu;rfl
theorem q4j{P:Prop}(h:P:=by
 go_enter Tryz.func73,Tryz.ntmps73;go_upto_region 1 with fail
 generalize w.alloc (zg h m)=w1 at*
 obtain⟨q0,q1,q2,q3,q4,q5,q6⟩:=HBX.out;rw[HE.out]at q0;go_wp2_with fail
 go_ret2
 exact⟨rfl,HW.out⟩):P:=h
theorem qnq(m:za)(c n:Int)(h:zi)(w:World)(H:zm w w.heap.size h m):
  Calls Tryz.prog 73 #[zp h m,.int .i64 c,.int .i64 n] w (q3p (jP m.classes c n) w):=by
 have HW:=zH ((zb w.heap.size w).alloc (zn _) (zg h m));have HIM:=zH (H.now HW.out);have HBX:=zH (ql w h m);have hle:=H.classes.le;have hcap:=H.classes.cap;have hn63:m.classes.length≤9223372036854775807:=by omega
 clear H hle hcap;by_cases hc:0≤c∧c<m.classes.length
 ·obtain⟨c0,c1⟩:=hc;obtain⟨i,rfl⟩:=Xq c0;have hi:i<m.classes.length:=by omega
  clear c0 c1;obtain⟨ad,e0,hab,s0,⟨A1,k1,s1,hs1⟩,⟨A2,k2,s2,hs2⟩,_⟩:=HIM.out.classes.row.at_ hi;have HE:=zH e0;clear e0;have l1:=hs2.le;have l2:=hs2.cap;have hs63:m.classes[i].slots.length≤9223372036854775807:=by omega
  have HSL:=zH hs2;clear hs1 hs2 l1 l2;by_cases hnn:0≤n∧n<m.classes[i].slots.length
  ·obtain⟨n0,n1⟩:=hnn;obtain⟨j,rfl⟩:=Xq n0;have hj:j<m.classes[i].slots.length:=by omega
   clear n0 n1;rw[q4r hi hj];obtain⟨ad2,rfl,hab2,z0⟩:=HSL.out.row.at_ hj;clear HSL;rw[Xz]at z0;generalize m.classes[i].slots[j]=f at*
   generalize m.classes[i]=x at*
   have z0':(w.alloc (zg h m)).cell? (ad2.add j)=some (.int .i64 f):=z0;clear z0;exact q4j
  ·rw[q8j hi (by omega)];have hno:n<0∨(m.classes[i].slots.length:Int)≤n:=by omega
   clear hnn HSL;generalize m.classes[i]=x at*
   rcases hno with hno|hno
   ·exact q4j
   ·have hn0:0≤n:=by omega
    exact q4j
 ·have hno:c<0∨(m.classes.length:Int)≤c:=by omega
  rw[q87 hno];clear hc;rcases hno with hno|hno
  ·go_enter Tryz.func73,Tryz.ntmps73;go_upto_region 1 with fail
   generalize w.alloc (zg h m)=w1 at*
   obtain⟨q0,q1,q2,q3,q4,q5,q6⟩:=HBX.out;go_wp2_with fail
   go_ret2
   exact⟨rfl,HW.out⟩
  ·have hn0:0≤c:=by omega
   go_enter Tryz.func73,Tryz.ntmps73;go_upto_region 1 with fail
   generalize w.alloc (zg h m)=w1 at*
   obtain⟨q0,q1,q2,q3,q4,q5,q6⟩:=HBX.out;go_wp2_with fail
   go_ret2
   exact⟨rfl,HW.out⟩
theorem qcs{m:za}{h:zi}{w0 w:World}{c n:Int}{o:Option Int}(HI:Hid (zm w0 w0.heap.size h m))(HX:Hid (Below w0.heap.size w0 w))(HO:Hid (jP m.classes c n=o)):
  Calls Tryz.prog 73 #[zp h m,.int .i64 c,.int .i64 n] w (q3p o w):=by
 have H:=qnq m c n h w (HI.out.now HX.out);rw[HO.out]at H;exact H
theorem q4q{sup:List Int}{k n k' n' k'' n'':Int}(h:zA sup k n k' n'=true)(g:zA sup k' n' k'' n''=true):zA sup k n k'' n''=true:=by
 rw[jW]at*
 rcases h with⟨rfl,h⟩|⟨rfl,rfl,h⟩|⟨h0,rfl,rfl⟩
 ·rcases g with⟨rfl,g⟩|⟨rfl,rfl,g⟩|⟨g0,rfl,rfl⟩
  ·exact .inl ⟨rfl,g⟩
  ·exact .inl ⟨rfl,by omega⟩
  ·exact .inl ⟨rfl,h⟩
 ·rcases g with⟨h4,_⟩|⟨_,rfl,g⟩|⟨g0,_,_⟩
  ·omega
  ·exact .inr (.inl ⟨rfl,rfl,qie h g⟩)
  ·omega
 ·exact g
def q1o(sup:List Int)(k n:Int):Prop:=k=3→0≤n∧n<sup.length
theorem YK{sup:List Int}{k n:Int}(hk:k=1∨k=2∨k=3∨k=4)(ht:q1o sup k n):zA sup k n k n=true:=by
 rw[jW];rcases hk with rfl|rfl|rfl|rfl
 ·exact .inr (.inr ⟨.inl rfl,rfl,rfl⟩)
 ·exact .inr (.inr ⟨.inr rfl,rfl,rfl⟩)
 ·exact .inr (.inl ⟨rfl,rfl,VJ (ht rfl).1 (ht rfl).2⟩)
 ·exact .inl ⟨rfl,by omega⟩
theorem VL{sup:List Int}{k n k' n':Int}(h:zA sup k n k' n'=true):(k=1∨k=2∨k=3∨k=4)∧(k'=1∨k'=2∨k'=3∨k'=4):=by
 rw[jW]at h;omega
def jH(sup:List Int)(c:Int):Int:=match sup[c.toNat]? with
 |some s=>if 0≤s∧s<c then s else -1
 |none=> -1
theorem q4z(sup:List Int)(c:Int)(h0:0≤c)(h1:c<sup.length)(A:Option Addr)(cap B:Nat)(w:World)(hl:sup.length≤1048576)(h:qY w B A sup):
  Calls Tryz.prog 200 #[.slice A sup.length cap,.int .i64 c] w fun e w'=>e= .returned (.int .i64 (jH sup c))∧w=w':=by
 obtain⟨K,rfl⟩:=Xq h0;have hlt:K<sup.length:=by omega
 have hs0:=Xc hlt;obtain⟨ad,rfl,hab,hc⟩:=h K _ hs0;have E:=zH (show jH sup (K:Int)=if 0≤sup[K]∧sup[K]<(K:Int)then sup[K]else -1 by unfold jH;rw[Xi,hs0]);clear hs0 h;generalize sup[K]=s at*
 by_cases g:0≤s∧s<(K:Int)
 ·have E2:=zH (show jH sup (K:Int)=s by rw[E.out,Xb g]);clear E;obtain⟨g0,g1⟩:=g;go_enter Tryz.func200,Tryz.ntmps200;go_wp2_with fail
  go_ret;rw[E2.out];exact⟨rfl,rfl⟩
 ·have E2:=zH (show jH sup (K:Int)= -1 by rw[E.out,Xa g]);clear E;by_cases g0:0≤s
  ·have g1:¬s<(K:Int):=by omega
   clear g;go_enter Tryz.func200,Tryz.ntmps200;go_wp2_with fail
   go_ret;rw[E2.out];exact⟨rfl,rfl⟩
  ·clear g;go_enter Tryz.func200,Tryz.ntmps200;go_wp2_with fail
   go_ret;rw[E2.out];exact⟨rfl,rfl⟩
def kU(sup:List Int)(c:Int):Bool:=decide (0≤c∧c<sup.length)
theorem QQ(sup:List Int)(c:Int)(A:Option Addr)(cap:Nat)(w:World)(hl:sup.length≤1048576):
  Calls Tryz.prog 199 #[.slice A sup.length cap,.int .i64 c] w fun e w'=>e= .returned (.bool (kU sup c))∧w=w':=by
 by_cases h0:0≤c
 ·by_cases h1:c<sup.length
  ·have E:=zH (show kU sup c=true from Xm ⟨h0,h1⟩);go_enter Tryz.func199,Tryz.ntmps199;go_wp2_with fail
   go_ret;rw[E.out];exact⟨by first|rfl|simp[h1],rfl⟩
  ·have E:=zH (show kU sup c=false from Xg (by omega));go_enter Tryz.func199,Tryz.ntmps199;go_wp2_with fail
   go_ret;rw[E.out];exact⟨by first|rfl|simp[h1],rfl⟩
 ·have E:=zH (show kU sup c=false from Xg (by omega));go_enter Tryz.func199,Tryz.ntmps199;go_wp2_with fail
  go_ret;rw[E.out];exact⟨by first|rfl|simp[h0],rfl⟩
theorem q0r(sup:List Int)(c:Int): -1≤jH sup c∧(0≤c→jH sup c<c):=by
 unfold jH;split
 ·split<;>omega
 ·exact⟨by omega,fun h=>by omega⟩
theorem q19{sup:List Int}{c:Int}(h0:0≤c)(h1:c<sup.length):zv sup c=c::zv sup (jH sup c):=by
 obtain⟨s,hs⟩:=q3a h0 h1;rw[q0w h0 hs];unfold jH;rw[hs];dsimp only;by_cases g:s<c
 ·rw[Xb g];by_cases g0:0≤s
  ·rw[Xb ⟨g0,g⟩]
  ·rw[Xa (by omega),JO (.inl (by omega)),JO (.inl (by omega))]
 ·rw[Xa g,Xa (by omega),JO (.inl (by omega))]
theorem q2m{sup:List Int}{c:Int}(h:kU sup c=true):0≤c∧c<sup.length:=Xy h
theorem q2e{sup:List Int}{c:Int}(h:¬kU sup c=true):c<0∨(sup.length:Int)≤c:=by
 unfold kU at h;simp at h;omega
theorem q7k{l:List Int}{n:Int}(h:n ∉l):zX l n=false:=Xg h
theorem q9v(sup:List Int)(a b:Int)(A:Option Addr)(cap B:Nat)(w:World)(hl:sup.length≤1048576)(hB:B≤w.heap.size)(h:qY w B A sup):
  Calls Tryz.prog 185 #[.slice A sup.length cap,.int .i64 a,.int .i64 b] w fun e w'=>e= .returned (.bool (zX (zv sup a) b))∧Below w.heap.size w w':=by
 have HS:=zH h;clear h;by_cases ha:kU sup a=true
 ·by_cases hb:kU sup b=true
  ·obtain⟨a0,a1⟩:=q2m ha;obtain⟨b0,b1⟩:=q2m hb;have HA:=zH ha;have HB:=zH hb;clear ha hb;go_enter Tryz.func185,Tryz.ntmps185;go_wp2_with(first
    |(go_at_call 199;(with_reducible refine(QQ sup a A cap w hl).mono ?_);rintro e w' ⟨he,rfl⟩;rw[HA.out]at he;subst he)
    |(go_at_call 199;(with_reducible refine(QQ sup b A cap w hl).mono ?_);rintro e w' ⟨he,rfl⟩;rw[HB.out]at he;subst he))
   go_loop [1] (fun i=>∃c:Int,i= .int .i64 c∧ -1≤c∧c<sup.length∧zX (zv sup a) b=zX (zv sup c) b) (fun i=>(intOf i+1).toNat)
   case atStart=>exact⟨a,rfl,by omega,a1,rfl⟩
   case round=>
    obtain⟨c,rfl,c0,c1,hn⟩:=hrel;have HN:=zH hn;clear hn;by_cases hcb:b<c
    ·have R:=zH (show zX (zv sup a) b=zX (zv sup (jH sup c)) b by
      rw[HN.out,q19 (by omega) c1];unfold zX;simp only[XA];rw[X8];constructor
      ·rintro(g|g)
       ·omega
       ·exact g
      ·exact .inr)
     have hc0:0≤c:=by omega
     have hs:=q0r sup c;clear HN;go_wp2_with(go_at_call 200;(with_reducible refine(q4z sup c hc0 c1 A cap B w hl HS.out).mono ?_);rintro e w' ⟨rfl,rfl⟩)
     go_round
     case rel=>exact⟨jH sup c,rfl,hs.1,by have:=hs.2 hc0;omega,R.out⟩
     case measure=>have:=hs.2 hc0;simp[intOf];omega
    ·by_cases hc:c=b
     ·have R:=zH (show zX (zv sup a) b=true by rw[HN.out,hc];exact QV.mpr (VJ b0 b1));clear HN;go_wp2_with fail
      go_ret;rw[R.out];exact⟨by first|rfl|simp[hc],zb _ _⟩
     ·have R:=zH (show zX (zv sup a) b=false by rw[HN.out];exact q7k (fun g=>by have:=vP g;omega));clear HN;go_wp2_with fail
      go_ret;rw[R.out];exact⟨by first|rfl|simp[hc],zb _ _⟩
  ·have HA:=zH ha;have HB:=zH (show kU sup b=false by simpa using hb);have R:=zH (show zX (zv sup a) b=false from q7k (fun g=>by have:=vP g;have:=q2e hb;omega));clear ha hb;go_enter Tryz.func185,Tryz.ntmps185;go_wp2_with(first
    |(go_at_call 199;(with_reducible refine(QQ sup a A cap w hl).mono ?_);rintro e w' ⟨he,rfl⟩;rw[HA.out]at he;subst he)
    |(go_at_call 199;(with_reducible refine(QQ sup b A cap w hl).mono ?_);rintro e w' ⟨he,rfl⟩;rw[HB.out]at he;subst he))
   go_ret;rw[R.out];exact⟨rfl,zb _ _⟩
 ·have HA:=zH (show kU sup a=false by simpa using ha);have R:=zH (show zX (zv sup a) b=false from q7k (fun g=>by have:=vP g;have:=q2e ha;omega));clear ha;go_enter Tryz.func185,Tryz.ntmps185;go_wp2_with(go_at_call 199;(with_reducible refine(QQ sup a A cap w hl).mono ?_);rintro e w' ⟨he,rfl⟩;rw[HA.out]at he;subst he)
  go_ret;rw[R.out];exact⟨rfl,zb _ _⟩
theorem q60(k n cap:Nat)(ad:Addr)(s:Int)(A1 A2:Option Addr)(n1 c1 n2 c2:Nat)(w:World)(hk:k<n)(hn:n≤9223372036854775807)(hab:ad.block<w.heap.size)
  (r0:w.cell? (ad.add (k*3))=some (.int .i64 s)) (r1:w.cell? (zf (ad.add (k*3)) 1)=some (.slice A1 n1 c1)) (r2:w.cell? (zf (ad.add (k*3)) 2)=some (.slice A2 n2 c2)):
  Calls Tryz.prog 209 #[.slice (some ad) n cap,.int .i64 k] w fun e w'=>e= .returned (.tuple #[.agg #[.int .i64 s,.slice A1 n1 c1,.slice A2 n2 c2],.bool true])∧Below w.heap.size w w':=by
 have HW:=zH ((zb w.heap.size w).alloc (zn _) (.cells #[.int .i64 0,.slice none 0 0,.slice none 0 0] 81));have r0:=(HW.out.cell (p:=ad.add (k*3)) (by rw[zu];exact hab)).trans r0;have r1:=(HW.out.cell (p:=zf (ad.add (k*3)) 1) (by show(ad.add _).block<_;rw[zu];exact hab)).trans r1;have r2:=(HW.out.cell (p:=zf (ad.add (k*3)) 2) (by show(ad.add _).block<_;rw[zu];exact hab)).trans r2;go_enter Tryz.func209,Tryz.ntmps209;go_wp2
 exact Xl (v:= .tuple #[.agg #[.int .i64 s,.slice A1 n1 c1,.slice A2 n2 c2],.bool true]) (by simp[results,Tryz.results209,go_sem]) rfl ⟨rfl,(zb _ _).alloc (zn _) _⟩
theorem q8o{P:Prop}(h:P:=by
 go_enter Tryz.func209,Tryz.ntmps209;go_wp2
 exact Xl (v:= .tuple #[.agg #[.int .i64 0,.slice none 0 0,.slice none 0 0],.bool false]) (by simp[results,Tryz.results209,go_sem]) rfl ⟨rfl,((zb _ _).alloc (zn _) _).alloc (by simp) _⟩):P:=h
theorem qe0(k:Int)(n cap:Nat)(A:Option Addr)(w:World)(hn:n≤9223372036854775807)(hk:k<0∨(n:Int)≤k):
  Calls Tryz.prog 209 #[.slice A n cap,.int .i64 k] w fun e w'=>e= .returned (.tuple #[.agg #[.int .i64 0,.slice none 0 0,.slice none 0 0],.bool false])∧Below w.heap.size w w':=by
 by_cases h0:k<0
 ·clear hk;exact q8o
 ·have h1:(n:Int)≤k:=by omega
  have h2:0≤k:=by omega
  clear hk h0;exact q8o
theorem qqv(k n cap:Nat)(ad:Addr)(z:Int)(w:World)(hk:k<n)(hn:n≤9223372036854775807)(r0:w.cell? (ad.add k)=some (.int .i64 z)):
  Calls Tryz.prog 210 #[.slice (some ad) n cap,.int .i64 k] w fun e w'=>e= .returned (.tuple #[.int .i64 z,.bool true])∧w=w':=by
 go_enter Tryz.func210,Tryz.ntmps210;go_wp2
 go_ret2
 exact⟨rfl,rfl⟩
theorem qdz(k:Int)(n cap:Nat)(A:Option Addr)(w:World)(hn:n≤9223372036854775807)(hk:k<0∨(n:Int)≤k):
  Calls Tryz.prog 210 #[.slice A n cap,.int .i64 k] w fun e w'=>e= .returned (.tuple #[.int .i64 0,.bool false])∧Below w.heap.size w w':=by
 by_cases h0:k<0
 ·clear hk;go_enter Tryz.func210,Tryz.ntmps210;go_wp2
  go_ret2
  exact⟨rfl,by first|exact zb _ _|exact(zb _ _).alloc (zn _) _⟩
 ·have h1:(n:Int)≤k:=by omega
  have h2:0≤k:=by omega
  clear hk h0;go_enter Tryz.func210,Tryz.ntmps210;go_wp2
  go_ret2
  exact⟨rfl,by first|exact zb _ _|exact(zb _ _).alloc (zn _) _⟩
theorem q8p(cl:List zJ)(k:Nat)(hk:k<cl.length)(A:Option Addr)(cap:Nat)(w:World)(h:ze qj 3 w w.heap.size A cap cl):
  Calls Tryz.prog 211 #[.slice A cl.length cap,.int .i64 k] w fun e w'=>e= .returned (.bool true)∧Below w.heap.size w w':=by
 have h1:=h.le;have h2:=h.cap;obtain⟨ad,rfl,hab,r0,⟨A1,k1,r1,_⟩,⟨A2,k2,r2,_⟩,_⟩:=h.row.at_ hk;clear h;have hn:cl.length≤9223372036854775807:=by omega
 generalize cl[k]=x at*
 generalize cl.length=n at*
 go_enter Tryz.func211,Tryz.ntmps211;go_wp2_with(go_at_call 209;(with_reducible refine(q60 k n cap ad _ _ _ _ _ _ _ w hk hn hab r0 r1 r2).mono ?_);rintro e w' ⟨rfl,hb⟩;have HB:=zH hb;clear hb)
 go_ret;exact⟨rfl,by first|exact HB.out|exact HB.out.alloc HB.out.size _⟩
theorem q9w(cl:List zJ)(k:Int)(hk:k<0∨(cl.length:Int)≤k)(A:Option Addr)(cap:Nat)(w:World)(h:ze qj 3 w w.heap.size A cap cl):
  Calls Tryz.prog 211 #[.slice A cl.length cap,.int .i64 k] w fun e w'=>e= .returned (.bool false)∧Below w.heap.size w w':=by
 have h1:=h.le;have h2:=h.cap;have hn:cl.length≤9223372036854775807:=by omega
 clear h;generalize cl.length=n at*
 go_enter Tryz.func211,Tryz.ntmps211;go_wp2_with(go_at_call 209;(with_reducible refine(qe0 k n cap A w hn hk).mono ?_);rintro e w' ⟨rfl,hb⟩;have HB:=zH hb;clear hb)
 go_ret;exact⟨rfl,by first|exact HB.out|exact HB.out.alloc HB.out.size _⟩
theorem sup_in{sup:List Int}{c s:Int}(h0:0≤c)(hs:sup[c.toNat]? =some s):(¬s=c∧zX (zv sup c) s=true)↔(0≤s∧s<c):=by
 have h1:c<sup.length:=by
  rcases Xk c.toNat sup.length with g|g
  ·omega
  ·rw[Xv g]at hs;cases hs
 rw[QV];constructor
 ·rintro⟨hn,hm⟩;have:=vP hm;omega
 ·rintro⟨g0,g1⟩;refine⟨by omega,?_⟩;rw[q0w h0 hs,Xb g1];exact XF _ (VJ g0 (by omega))
theorem quj{sup:List Int}{c s:Int}(hs:sup[c.toNat]? =some s):jH sup c=if 0≤s∧s<c then s else -1:=by
 unfold jH;rw[hs]
theorem qm4(sup:List Int)(c:Int)(h0:0≤c)(h1:c<sup.length)(A:Option Addr)(cap B:Nat)(w:World)(hl:sup.length≤1048576)(hB:B≤w.heap.size)(h:qY w B A sup):
  Calls Tryz.prog 212 #[.slice A sup.length cap,.int .i64 c] w fun e w'=>e= .returned (.int .i64 (jH sup c))∧Below w.heap.size w w':=by
 obtain⟨K,rfl⟩:=Xq h0;have hlt:K<sup.length:=by omega
 have hs0:=Xc hlt;have HS:=zH h;obtain⟨ad,rfl,hab,hc⟩:=h K _ hs0;have E1:=zH (quj (sup:=sup) (c:=(K:Int)) (s:=sup[K]) (by rw[Xi];exact hs0));have E2:=zH (sup_in (sup:=sup) (c:=(K:Int)) (s:=sup[K]) h0 (by rw[Xi];exact hs0));clear hs0 h;generalize sup[K]=s at*
 by_cases g:s=(K:Int)
 ·have E:=zH (show jH sup (K:Int)= -1 by rw[E1.out,Xa (by omega)]);clear E1 E2;subst g;go_enter Tryz.func212,Tryz.ntmps212;go_wp2_with fail
  go_ret;rw[E.out];exact⟨rfl,zb _ _⟩
 ·have hne:((s:Int) !=(K:Int))=true:=by simpa using g
  obtain⟨r,hr⟩:∃r,zX (zv sup (K:Int)) s=r:=⟨_,rfl⟩
  have R:=zH hr;have E:=zH (show jH sup (K:Int)=if r=true then s else -1 by
   rw[E1.out,←hr];by_cases q:0≤s∧s<(K:Int)
   ·rw[Xb q,Xb (E2.out.mpr q).2]
   ·rw[Xa q,Xa (fun x=>q (E2.out.mp ⟨g,x⟩))])
  clear E1 E2 hr g;cases r;all_goals
   go_enter Tryz.func212,Tryz.ntmps212;go_wp2_with(go_at_call 185;(with_reducible refine(q9v sup (K:Int) s (some ad) cap B w hl hB HS.out).mono ?_);rintro e w' ⟨he,hb⟩;rw[R.out]at he;subst he)
   go_ret;rw[E.out];exact⟨by simp,hb⟩
theorem q5x{sup:List Int}{c:Int}{n:Nat}(HN:Hid (sup.length=n))(h0:0≤c)(h1:c<sup.length)(A:Option Addr)(cap B:Nat)(w:World)(hl:sup.length≤1048576)(hB:B≤w.heap.size)(h:qY w B A sup):
  Calls Tryz.prog 212 #[.slice A n cap,.int .i64 c] w fun e w'=>e= .returned (.int .i64 (jH sup c))∧Below w.heap.size w w':=by
 obtain rfl:=HN.out;exact qm4 sup c h0 h1 A cap B w hl hB h
theorem qgv{sup:List Int}{c k:Nat}(hc:c<k)(hk:k<sup.length):zX (zv sup (k:Int)) c=zX (qP sup c k) (jH sup k):=by
 rw[XV,QV,QV,q0v,QV,q19 (by omega) (by omega),XA];have hb:=q0r sup (k:Int);constructor
 ·rintro(h|h)
  ·omega
  ·have hr:=vP h;exact⟨by omega,by have:=hb.2 (by omega);omega,h⟩
 ·rintro⟨_,_,h⟩;exact .inr h
theorem qb1{l:List Int}{x:Int}{n:Nat}{b:Bool}{A:Option Addr}{cap:Nat}{w:World}(HN:Hid (l.length=n))(HB:Hid (zX l x=b))(hl:n≤1048576)(h:zq w w.heap.size A (l.map (Value.int .i64)))(hs:l.Pairwise (· < ·)):
  Calls Tryz.prog 109 #[.slice A n cap,.int .i64 x] w (qez b w):=by
 obtain rfl:=HN.out;have H:=q9b l x A cap w hl h hs;rw[HB.out]at H;exact H
set_option maxHeartbeats 1600000 in
theorem qm2(m:za)(c:Int)(h:zi)(w:World)(H:zm w w.heap.size h m)(hn:m.classes.length≤1000):
  Calls Tryz.prog 202 #[zp h m,.int .i64 c] w (vl (Zr m.classes c) w):=by
 obtain⟨i0,hi,hz0,hz1,hz2⟩:=info_parts vT;have HW:=zH ((zb w.heap.size w).alloc (zn _) (zg h m));have HIM:=zH (H.now HW.out);have HBX:=zH (ql w h m);have HZ:Hid (w.heap.size<(w.alloc (zg h m)).heap.size):=zH (by simp);have HS:=zH (JP HIM.out.classes.row);have hsl:(zz m.classes).length=m.classes.length:=kq _;have hle:=H.classes.le;have hcap:=H.classes.cap;have HE:=zH (show Zr m.classes c=qP (zz m.classes) c m.classes.length from rfl);obtain⟨sup,hsup⟩:∃sup,zz m.classes=sup:=⟨_,rfl⟩
 rw[hsup]at hsl HS HE;clear hsup H;by_cases hc:0≤c∧c<m.classes.length
 ·obtain⟨c0,c1⟩:=hc;obtain⟨i,rfl⟩:=Xq c0;have hil:i<m.classes.length:=by omega
  have HSELF:=zH (qgu (sup:=sup) (c:=i) (by omega));have hsl1:sup.length≤1048576:=by omega
  have HSl:=zH hsl;clear hsl c0 c1;go_enter Tryz.func202,Tryz.ntmps202;go_upto_region 1 with fail
  generalize w.alloc (zg h m)=w1 at*
  obtain⟨q0,q1,q2,q3,q4,q5,q6⟩:=HBX.out;go_wp2_with(go_at_call 211;(with_reducible refine(q8p m.classes i hil h.A0 h.c0 w1 HIM.out.classes).mono ?_);rintro e w2 ⟨rfl,hb⟩;have HB2:=zH hb;clear hb)
  clear q0 q1 q2 q3 q4 q5 q6;have hs2:=HB2.out.size;go_loopw [5,6] (fun v s6 wr=>∃k:Nat,i<k∧k≤m.classes.length∧s6= .int .i64 k∧Hid (wr.ownsRow w1.heap.size 3 1 v (qP sup (i:Int) k).length ((qP sup (i:Int) k).map (Value.int .i64)))∧Hid (Below w1.heap.size w1 wr)) (fun _ s6 _=>m.classes.length - (intOf s6).toNat)
  case atStart=>
   refine⟨i+1,by omega,by omega,by go_num,zH ?_,zH (HB2.out.alloc hs2 _)⟩;rw[HSELF.out];exact⟨rfl,.inr ⟨w2.heap.size,1,#[.int .i64 (i:Int)],rfl,hs2,Xw _ _,zn _,by unfold maxLen;omega,rfl,rfl⟩⟩
  case round=>
   obtain⟨k,hik,hk,rfl,HO,HX⟩:=hrel;obtain⟨q0,q1,q2,q3,q4,q5,q6⟩:=HBX.out.keep HX.out HZ.out;have hbl:=VE sup (i:Int) k;by_cases hlt:k<m.classes.length
   ·obtain⟨b,hb⟩:∃b,zX (zv sup k) (i:Int)=b:=⟨_,rfl⟩
    have HST:=zH (show qP sup (i:Int) (k+1)=if b=true then qP sup (i:Int) k++[(k:Int)]else qP sup (i:Int) k by rw[←hb];rfl);have hks:k<sup.length:=by rw[HSl.out];exact hlt
    have hbn:=qgv hik hks;rw[hb]at hbn;have HBN:=zH hbn.symm;have HRI:=zH (q4b sup (i:Int) k);clear hb hbn;have HSr:=zH ((HS.out.below_to HX.out (zn _)):qY wr w1.heap.size h.A0 sup);generalize qP sup (i:Int) k=L at*
    have hsz:=HX.out.size;have hk0:(0:Int)≤k:=by omega
    have hk1:(k:Int)<sup.length:=by omega
    have hLl:L.length≤1048576:=by omega
    obtain⟨Av,cv,rfl,hl0,g1,g2⟩:=kO HO.out;have HL0:=zH hl0;clear hl0;cases b
    ·have e1:qP sup (i:Int) (k+1)=L:=HST.out;have HST1:=zH e1;clear e1 HST;go_wp2_with(first
      |(go_at_call 212;(with_reducible refine(q5x HSl hk0 hk1 h.A0 h.c0 w1.heap.size wr hsl1 hsz HSr.out).mono ?_);rintro e w2 ⟨rfl,hb⟩;have HX2:=zH (HX.out.trans (hb.mono hsz));have HO2:=zH (zT HO.out hb (zL HO.out));have HL2:=zH ((HL0.out.below hb).more hb.size);have hsz2:=HX2.out.size;clear hb)
      |(go_at_call 109;(with_reducible refine(qb1 (zH rfl) HBN hLl HL2.out HRI.out).mono ?_);rintro e w3 ⟨p,rfl,hb⟩;have HX3:=zH (HX2.out.trans (hb.mono hsz2));have HO3:=zH (zT HO2.out hb (zL HO2.out));have hsz3:=HX3.out.size;clear hb;obtain⟨q0,q1,q2,q3,q4,q5,q6⟩:=HBX.out.keep HX3.out HZ.out))
     go_roundw;case rel=>exact⟨k+1,by omega,by omega,by go_num,zH (by rw[HST1.out];exact HO3.out),HX3⟩
     case measure=>simp[intOf];omega
    ·have e1:qP sup (i:Int) (k+1)=L++[(k:Int)]:=HST.out;have HST1:=zH e1;clear e1 HST;go_wp2_with(first
      |(go_at_call 212;(with_reducible refine(q5x HSl hk0 hk1 h.A0 h.c0 w1.heap.size wr hsl1 hsz HSr.out).mono ?_);rintro e w2 ⟨rfl,hb⟩;have HX2:=zH (HX.out.trans (hb.mono hsz));have HO2:=zH (zT HO.out hb (zL HO.out));have HL2:=zH ((HL0.out.below hb).more hb.size);have hsz2:=HX2.out.size;clear hb)
      |(go_at_call 109;(with_reducible refine(qb1 (zH rfl) HBN hLl HL2.out HRI.out).mono ?_);rintro e w3 ⟨p,rfl,hb⟩;have HX3:=zH (HX2.out.trans (hb.mono hsz2));have HO3:=zH (zT HO2.out hb (zL HO2.out));have hsz3:=HX3.out.size;clear hb;obtain⟨q0,q1,q2,q3,q4,q5,q6⟩:=HBX.out.keep HX3.out HZ.out)
      |(at_builtin;refine wpList_append_own _ rfl _ _ 26 rfl w1.heap.size 3 i0 (.int .i64 0) 1 8 Tryz.underlying26 hi hz0 hz1 hz2 rfl (by decide) _ _ _ rfl (HO3.out.alloc _) ⟨_,0,none⟩ 1 1 [.int .i64 (k:Int)] rfl rfl (q1m _ _) (q1e _) (by unfold maxLen;omega) (by omega) (by simp;omega) ?_;intro v' w4 hown' hgrow _;have hR:=YD HO3.out hsz3 HX3.out hown' hgrow;have HO4:=zH hR.1;have HX4:=zH hR.2;clear hown' hgrow hR))
     go_roundw;case rel=>exact⟨k+1,by omega,by omega,by go_num,zH (by rw[HST1.out];exact HO4.out),HX4⟩
     case measure=>simp[intOf];omega
   ·obtain rfl:k=m.classes.length:=by omega
    go_wp2_with fail
    go_ret;refine⟨_,rfl,?_,HW.out.trans (HX.out.mono HW.out.size)⟩;rw[HE.out];exact ja HO.out HW.out.size
 ·have hno:c<0∨(m.classes.length:Int)≤c:=by omega
  have HE2:=zH (show Zr m.classes c=[]by rw[HE.out];exact qma (by omega) _ (by omega));clear hc hsl;go_enter Tryz.func202,Tryz.ntmps202;go_upto_region 1 with fail
  generalize w.alloc (zg h m)=w1 at*
  obtain⟨q0,q1,q2,q3,q4,q5,q6⟩:=HBX.out;go_wp2_with(go_at_call 211;(with_reducible refine(q9w m.classes c hno h.A0 h.c0 w1 HIM.out.classes).mono ?_);rintro e w2 ⟨rfl,hb⟩;have HB2:=zH hb;clear hb)
  go_ret;refine⟨_,rfl,?_,HW.out.trans (HB2.out.mono HW.out.size)⟩;rw[HE2.out];exact XQ _ _ _ _
section
variable{m:za}{h:zi}{w0 w:World}{c:Int}
theorem qqn{L:List Int}(HI:Hid (zm w0 w0.heap.size h m))(HX:Hid (Below w0.heap.size w0 w))(HL:Hid (Zr m.classes c=L))(hn:m.classes.length≤1000):
  Calls Tryz.prog 202 #[zp h m,.int .i64 c] w (vl L w):=by
 have H:=qm2 m c h w (HI.out.now HX.out) hn;rw[HL.out]at H;exact H
end
theorem qq8(m:za)(c n:Int)(h:zi)(w:World)(H:zm w w.heap.size h m):
  Calls Tryz.prog 198 #[zp h m,.int .i64 c,.int .i64 n] w (q3p (jP m.classes c n) w):=by
 have HW:=zH ((zb w.heap.size w).alloc (zn _) (zg h m));have HIM:=zH (H.now HW.out);have HBX:=zH (ql w h m);have hle:=H.classes.le;have hcap:=H.classes.cap;have hn63:m.classes.length≤9223372036854775807:=by omega
 clear H hle hcap;by_cases hc:0≤c∧c<m.classes.length
 ·obtain⟨c0,c1⟩:=hc;obtain⟨i,rfl⟩:=Xq c0;have hi:i<m.classes.length:=by omega
  obtain⟨ad,e0,hab,s0,⟨A1,k1,s1,hs1⟩,⟨A2,k2,s2,hs2⟩,_⟩:=HIM.out.classes.row.at_ hi;have HE:=zH e0;clear e0;have l1:=hs2.le;have l2:=hs2.cap;have hs63:m.classes[i].slots.length≤9223372036854775807:=by omega
  have HSL:=zH hs2;clear hs1 hs2;by_cases hnn:0≤n∧n<m.classes[i].slots.length
  ·obtain⟨n0,n1⟩:=hnn;obtain⟨j,rfl⟩:=Xq n0;have hj:j<m.classes[i].slots.length:=by omega
   rw[q4r hi hj];obtain⟨ad2,rfl,hab2,z0⟩:=HSL.out.row.at_ hj;clear HSL;rw[Xz]at z0;generalize m.classes[i].slots[j]=f at*
   generalize m.classes[i]=x at*
   go_enter Tryz.func198,Tryz.ntmps198;go_upto_region 1 with fail
   generalize w.alloc (zg h m)=w1 at*
   obtain⟨q0,q1,q2,q3,q4,q5,q6⟩:=HBX.out;rw[HE.out]at q0;have HZ:Hid (∀W,Below w1.heap.size w1 W→W.cell? (ad2.add j)=some (.int .i64 f)):=zH (fun W hW=>(hW.cell (p:=ad2.add j) (by rw[zu];exact hab2)).trans z0);go_upto_region 2 with(go_at_call 209;(with_reducible refine(q60 i m.classes.length h.c0 ad _ _ _ _ _ _ _ w1 hi hn63 hab s0 s1 s2).mono ?_);rintro e w2 ⟨rfl,hb⟩;have HB2:=zH hb;clear hb)
   have z2:=HZ.out _ (HB2.out.alloc HB2.out.size (.cells #[.int .i64 x.sup,.slice A1 x.fields.length k1,.slice (some ad2) x.slots.length k2] 81));go_wp2_with(go_at_call 210;(with_reducible refine(qqv j x.slots.length k2 ad2 f _ hj hs63 z2).mono ?_);rintro e w3 ⟨rfl,rfl⟩)
   go_ret2
   exact⟨rfl,HW.out.trans ((HB2.out.alloc HB2.out.size _).mono HW.out.size)⟩
  ·rw[q8j hi (by omega)];have hno:n<0∨(m.classes[i].slots.length:Int)≤n:=by omega
   clear hnn HSL;generalize m.classes[i]=x at*
   go_enter Tryz.func198,Tryz.ntmps198;go_upto_region 1 with fail
   generalize w.alloc (zg h m)=w1 at*
   obtain⟨q0,q1,q2,q3,q4,q5,q6⟩:=HBX.out;rw[HE.out]at q0;go_upto_region 2 with(go_at_call 209;(with_reducible refine(q60 i m.classes.length h.c0 ad _ _ _ _ _ _ _ w1 hi hn63 hab s0 s1 s2).mono ?_);rintro e w2 ⟨rfl,hb⟩;have HB2:=zH hb;clear hb)
   go_wp2_with(go_at_call 210;(with_reducible refine(qdz n x.slots.length k2 A2 _ hs63 hno).mono ?_);rintro e w3 ⟨rfl,hb⟩;have HB3:=zH hb;clear hb)
   go_ret2
   exact⟨rfl,HW.out.trans (((HB2.out.alloc HB2.out.size _).trans (HB3.out.mono (HB2.out.alloc HB2.out.size _).size)).mono HW.out.size)⟩
 ·have hno:c<0∨(m.classes.length:Int)≤c:=by omega
  rw[q87 hno];have hz:n<0∨((0:Nat):Int)≤n:=by omega
  clear hc;go_enter Tryz.func198,Tryz.ntmps198;go_upto_region 1 with fail
  generalize w.alloc (zg h m)=w1 at*
  obtain⟨q0,q1,q2,q3,q4,q5,q6⟩:=HBX.out;go_upto_region 2 with(go_at_call 209;(with_reducible refine(qe0 c m.classes.length h.c0 h.A0 w1 hn63 hno).mono ?_);rintro e w2 ⟨rfl,hb⟩;have HB2:=zH hb;clear hb)
  go_wp2_with(go_at_call 210;(with_reducible refine(qdz n 0 0 none _ (by omega) hz).mono ?_);rintro e w3 ⟨rfl,hb⟩;have HB3:=zH hb;clear hb)
  go_ret2
  exact⟨rfl,HW.out.trans (((HB2.out.alloc HB2.out.size _).trans (HB3.out.mono (HB2.out.alloc HB2.out.size _).size)).mono HW.out.size)⟩
theorem q6j{m:za}{h:zi}{w0 w:World}{c n:Int}{o:Option Int}(HI:Hid (zm w0 w0.heap.size h m))(HX:Hid (Below w0.heap.size w0 w))(HO:Hid (jP m.classes c n=o)):
  Calls Tryz.prog 198 #[zp h m,.int .i64 c,.int .i64 n] w (q3p o w):=by
 have H:=qq8 m c n h w (HI.out.now HX.out);rw[HO.out]at H;exact H
theorem q5c(E:Option Addr)(n c:Nat)(x:Int)(w:World)(r:Bool)(hr:(decide (0≤x)&& decide (x<n))=r):
  Calls Tryz.prog 107 #[.slice E n c,.int .i64 x] w fun e w'=>e= .returned (.bool r)∧Below w.heap.size w w':=by
 have HR:=zH hr;by_cases h0:0≤x
 ·by_cases h1:x<n
  ·go_enter Tryz.func107,Tryz.ntmps107;go_wp2
   go_ret;exact⟨by rw[←HR.out,Xm h0,Xm h1];rfl,zb _ _⟩
  ·go_enter Tryz.func107,Tryz.ntmps107;go_wp2
   go_ret;exact⟨by rw[←HR.out,Xm h0,Xg (by omega)];rfl,zb _ _⟩
 ·go_enter Tryz.func107,Tryz.ntmps107;go_wp2
  go_ret;exact⟨by rw[←HR.out,Xg (by omega),Bool.false_and];rfl,zb _ _⟩
set_option maxHeartbeats 1600000 in
theorem qav(B g n v:Nat)(EL:List (List Int))(S:Wk)(a:Jg)(ρ:Nat→Nat)(w:World)(h:zC w B g EL n S a ρ)(hv:v<n)(hm:S.met<n)(hw:S.way.length≤n)(ho:S.opn.length≤n):
  Calls Tryz.prog 153 #[.pointer (some ⟨g,0,none⟩),.int .i64 (v:Int)] w fun e w'=>e= .returned (.tuple #[])∧(∃a' ρ',zC w' B g EL n (S.meet v) a' ρ')∧Below B w w':=by
 obtain⟨met,place,back,gone,way,opn,parts⟩:=S;obtain⟨gp,gb,gg,E,ce,Ay,cy,Ao,co,Ap,cp,vs⟩:=a;dsimp only at hm hw ho;have HI:=zH h;have hn1:=h.n1;have hge:=h.g_ge;obtain⟨hg0,hg1,hg2,hg3⟩:=hge;have q1:=h.blk.cells 1 _ rfl;have f1:=h.blk.free 1;have H1:=zH (h.met (k:=met+1) (z:=(met:Int)+1) (by omega));have X1:=zH ((zb B w).setCell (p:=⟨g,1,none⟩) hg0 (.int .i64 ((met:Int)+1)));dsimp only at q1 f1 H1 hg1 hg2 hg3;clear h;obtain⟨i0,hi,hz0,hz1,hz2⟩:=info_parts vT;go_enter Tryz.func153,Tryz.ntmps153;go_upto_region 1 with fail
 generalize w.setCell ⟨g,1,none⟩ (.int .i64 ((met:Int)+1))=w1 at*
 clear q1 f1;have q1:=H1.out.blk.cells 1 _ rfl;have q2:=H1.out.blk.cells 2 _ rfl;have q3:=H1.out.blk.cells 3 _ rfl;obtain⟨c1,fp⟩:=H1.out.p_at hv;obtain⟨c2,fb⟩:=H1.out.b_at hv;dsimp only at q1 q2 q3 c1 c2 fp fb;have H2:=zH (H1.out.place (v:=v) (k:=met+1) (z:=(met:Int)+1) (by omega));obtain⟨c3,f3⟩:=H2.out.b_at hv;dsimp only at H2 c3 f3;go_region
 have H3:=zH ((H2.out.back (v:=v) (k:=(met:Int)+1)).keep (zb _ _).drew);have X3:=zH ((X1.out.setCell (p:=⟨gp,v,none⟩) hg1 (.int .i64 ((met:Int)+1))).setCell (p:=⟨gb,v,none⟩) hg2 (.int .i64 ((met:Int)+1))).drew;generalize((w1.setCell ⟨gp,v,none⟩ (.int .i64 ((met:Int)+1))).setCell ⟨gb,v,none⟩ (.int .i64 ((met:Int)+1))).drew=w3 at*
 clear q1 q2 q3 c1 fp c2 fb c3 f3 H2 H1 X1;have q5:=H3.out.blk.cells 5 _ rfl;dsimp only at q5 H3;have hz3:=H3.out.size;have HY3:Hid (w3.ownsRow B 3 1 (.slice Ay way.length cy) way.length (zQ way)):=zH H3.out.way;go_upto_region 3 with(at_builtin;go_loud (refine wpList_append_lies _ rfl _ _ 26 rfl B 3 i0 (.int .i64 0) 1 8 Tryz.underlying26 hi hz0 hz1 hz2 rfl (by decide) _ _ _ rfl (HY3.out.alloc _) ⟨_,0,none⟩ 1 1 [.int .i64 (v:Int)] rfl rfl (q7i _ _ _) (JR rfl) (by decide) (by unfold maxLen;omega) (by omega) (by simp;omega) _ rfl ?_);intro g9 c9 w9 hown hgrow hor hlt9;have hb9:=vQ H3.out.blk (q03 H3.out.r4 hgrow) (by rw[H3.out.r0];decide);have q5':=hb9.cells 5 _ rfl;have f5':=hb9.free 5;have HA:=zH (H3.out.way_app hown hgrow hor);clear hown hgrow hor hlt9 hb9;dsimp only at q5')
 have H4:=zH HA.out.1;have X4:=zH (X3.out.trans HA.out.2);generalize w9.setCell ⟨g,5,none⟩ (.slice (some ⟨g9,0,none⟩) (way.length+1) c9)=w4 at*
 clear HA q5' f5' q5 H3 HY3 X3;have q6:=H4.out.blk.cells 6 _ rfl;dsimp only at q6 H4;have hz4:=H4.out.size;have HO4:Hid (w4.ownsRow B 3 1 (.slice Ao opn.length co) opn.length (zQ opn)):=zH H4.out.opn;go_wp2_with(at_builtin;go_loud (refine wpList_append_lies _ rfl _ _ 26 rfl B 3 i0 (.int .i64 0) 1 8 Tryz.underlying26 hi hz0 hz1 hz2 rfl (by decide) _ _ _ rfl (HO4.out.alloc _) ⟨_,0,none⟩ 1 1 [.int .i64 (v:Int)] rfl rfl (q7i _ _ _) (JR rfl) (by decide) (by unfold maxLen;omega) (by omega) (by simp;omega) _ rfl ?_);intro h9 d9 v9 hown hgrow hor hlt9;have hb9:=vQ H4.out.blk (q03 H4.out.r5 hgrow) (by rw[H4.out.r0];decide);have q6':=hb9.cells 6 _ rfl;have f6':=hb9.free 6;have HA:=zH (H4.out.opn_app hown hgrow hor);clear hown hgrow hor hlt9 hb9;dsimp only at q6')
 go_end0
 exact⟨rfl,⟨_,_,HA.out.1⟩,X4.out.trans HA.out.2⟩
open Go.Sort (Holds putRow)
theorem qd4{w:World}{B e c:Nat}{A:Option Addr}{xs ys:List Value}(h:w.ownsRow B e 1 (.slice A (xs++ys).length c) (xs++ys).length (xs++ys)):w.ownsRow B e 1 (.slice A xs.length c) xs.length xs:=by
 rcases h.2 with⟨hv,hn⟩|⟨g,cap,cur,hv,hb,hh,h1,h2,h3,h4⟩
 ·have:xs=[]:=by cases xs with
   |nil=>rfl
   |cons x l=>simp at hn
  subst this;injection hv with e1 e2 e3;subst e1 e3;exact XQ _ _ _ _
 ·injection hv with e1 e2 e3;subst e1 e3;rw[Xe]at h1 h4;refine⟨by simp,.inr ⟨g,c,cur,rfl,hb,hh,by omega,h2,h3,?_⟩⟩;have:(cur.toList.take ((xs.length+ys.length)*1)).take xs.length=xs:=by rw[h4,List.take_left]
  rw[List.take_take,Nat.min_eq_left (by omega)]at this;rw[Xz];exact this
theorem YT{w:World}{B e n c:Nat}{A:Option Addr}{xs:List Value}(h:w.ownsRow B e 1 (.slice A n c) n xs)(hn:0<n):∃g,A=some ⟨g,0,none⟩∧n≤c∧c≤9223372036854775807∧g<w.heap.size∧B≤g:=by
 rcases h.2 with⟨_,h2⟩|⟨g,cap,cur,hv,hb,hh,h1,h2,_,_⟩
 ·omega
 ·injection hv with e1 e2 e3;subst e1 e3;exact⟨g,rfl,h1,by unfold maxLen at h2;omega,lt_of_block hh,hb⟩
theorem YU{w:World}{B e n c:Nat}{g:Nat}{xs:List Value}(h:w.ownsRow B e 1 (.slice (some ⟨g,0,none⟩) n c) n xs){j:Nat}{x:Value}(hj:xs[j]? =some x):w.cell? ⟨g,j,none⟩=some x:=by
 obtain⟨hlt,rfl⟩:=XM.mp hj;exact qot (zq.of_own h) j hlt
theorem Ya{l:List Nat}{j v:Nat}(h:l[j]? =some v):(zQ l)[j]? =some (.int .i64 (v:Int)):=by
 unfold zQ;rw[XB,h];rfl
theorem qsi(l:List Nat):∀u ∈zQ l,u.oneCell'=true:=fun u hu=>by
 obtain⟨k,_,rfl⟩:=XW.mp hu;rfl
theorem qon(l:List Nat)(k:Nat):zQ (l.drop k)=(zQ l).drop k:=List.map_drop ..
theorem qd6(l m:List Nat):zQ (l++m)=zQ l++zQ m:=XY ..
def CopyN(L:List Nat)(w:World)(e:Ending)(w':World):Prop:=∃gi ci,e= .returned (.slice (some ⟨gi,0,none⟩) L.length ci)∧w.heap.size≤gi∧w'.ownsRow w.heap.size 3 1 (.slice (some ⟨gi,0,none⟩) L.length ci) L.length (zQ L)∧Below w.heap.size w w'
theorem qj3(L:List Nat)(ad:Addr)(c B:Nat)(w:World)(h:zq w B (some ad) (zQ L))(hB:B≤w.heap.size)(h0:0<L.length)(hl:L.length≤1048576):
  Calls Tryz.prog 205 #[.slice (some ad) L.length c] w (CopyN L w):=by
 have hq:=fun w=>Lib.run_eql_slice_nil (P:=Tryz.prog) w 26 3 (some ad) L.length c 0 0 Tryz.underlying26;obtain⟨ti,hti,ht0,ht1,ht2⟩:=info_parts vT;have HXE:Hid (Below w.heap.size w (w.alloc (.cells #[] 3))):=zH ((zb _ _).alloc (zn _) _);have HT:=zH (h.below_to HXE.out hB);clear h;go_enter Tryz.func205,Tryz.ntmps205;go_wp2_with(at_builtin;go_loud (refine Zj rfl _ _ 26 rfl w.heap.size 3 ti (.int .i64 0) 1 8 Tryz.underlying26 hti ht0 ht1 ht2 rfl (by decide) _ 0 [] rfl (YE w 3 1) (some ad) L.length c _ (zQ L) (by rw[JW];omega) rfl HT.out (qsi _) (by unfold maxLen;omega) (by omega) (by simp) ?_);intro v6 w6 hown hgrow;have HX6:=zH (jV HXE.out (YE w 3 1) (by simp) hgrow);have HO6:Hid (w6.ownsRow w.heap.size 3 1 v6 L.length (zQ L)):=zH (by simpa using hown);clear hown hgrow)
 go_ret;obtain⟨A,ca,rfl,_⟩:=qbc HO6.out;obtain⟨gi,rfl,_,_,_,hb⟩:=YT HO6.out h0;exact⟨gi,ca,rfl,hb,HO6.out,HX6.out⟩
theorem qnc(L:List Nat)(B gi ci:Nat)(w:World)(h:w.ownsRow B 3 1 (.slice (some ⟨gi,0,none⟩) L.length ci) L.length (zQ L))(hl:L.length≤1048576):
  Calls Tryz.prog 190 #[.slice (some ⟨gi,0,none⟩) L.length ci] w fun e w'=>e= .returned (.tuple #[])∧w'.ownsRow B 3 1 (.slice (some ⟨gi,0,none⟩) L.length ci) L.length (zQ (L.mergeSort fun x y=>decide (x≤y)))∧w.grownBy w' (some gi):=by
 rcases h.2 with⟨hv,_⟩|⟨g',cap,cur,hv,hbase,hb,h1,h2,h3,h4⟩
 ·cases hv
 injection hv with e1 e2 e3;injection e1 with e1;injection e1 with e1;subst e1 e3;have hz:(L.map (fun k:Nat=>(k:Int))).map (Value.int .i64)=zQ L:=by rw[List.map_map];rfl
 have hH:Holds (Value.int .i64) w gi 0 (L.map (fun k:Nat=>(k:Int))).toArray:=holds_of_blockI hb (by rw[Xo,hz];simpa using h4);have hgl:gi<w.heap.size:=lt_of_block hb;have hc:=Any.slices_Sort_int q5b gi 0 ci (L.map (fun k:Nat=>(k:Int))) w hH hgl (by rw[Xo];omega);rw[Xo]at hc;have hs:(L.map (fun k:Nat=>(k:Int))).mergeSort (fun x y=>decide (x≤y))=(L.mergeSort fun x y=>decide (x≤y)).map (fun k:Nat=>(k:Int)):=
  (List.map_mergeSort (fun a _ b _=>by simp)).symm
 rw[hs]at hc;refine hc.mono ?_;rintro e w' ⟨rfl,nn,os,rfl⟩;refine⟨rfl,?_,grownBy_sortedI _⟩;have hsl:((L.mergeSort fun x y=>decide (x≤y)).map (fun k:Nat=>(k:Int))).length=(L.map (fun k:Nat=>(k:Int))).length:=by simp
 have q:=ownsRow_sortedI (n:=nn) (os:=os) (ss:=L.map (fun k:Nat=>(k:Int))) hsl hbase hb (by rw[Xo];exact h1) h2 h3;rw[Xo,List.map_map]at q;exact q
theorem quk(L:List Nat):(L.mergeSort fun x y=>decide (x≤y)).Perm L∧(L.mergeSort fun x y=>decide (x≤y)).Pairwise (· ≤ ·):=
 ⟨List.mergeSort_perm L _,(List.pairwise_mergeSort (fun a b c h1 h2=>by simp at*;omega) (fun a b=>by simp;omega) L).imp (fun {a b} q=>by simpa using q)⟩
section
variable{w w':World}{B g n:Nat}{EL:List (List Int)}{S:Wk}{a:Jg}{ρ:Nat→Nat}
theorem q21.all{r:Nat}(q:q21 w B g EL n S a ρ r)(hr:8≤r)(h1:EL.length=n)(h2:0≤n)(h3:n≤1048576)(h4:∀l ∈EL,l.length≤1048576):zC w B g EL n S a ρ:=
 ⟨q.low,q.size,h1,h2,h3,q.edges,h4,q.blk (by omega),q.pl (by omega),q.bk (by omega),q.gn (by omega),q.way (by omega),q.opn (by omega),q.prt (by omega),q.pin (by omega),q.r0,q.r1,q.r2,q.r3,q.r4 (by omega),q.r5 (by omega),q.r6 (by omega)⟩
theorem zC.fresh(h:zC w B g EL n S a ρ)(hb:Below w.heap.size w w'){gi:Nat}(hg:w.heap.size≤gi):zC w' B g EL n S a (qe ρ gi 8):=
 (h.moveU (r:=8) (N:=gi) (qo.below hb) (.inr hg) (by decide) (by decide)).all (zn _) h.len h.n0 h.n1 h.el
theorem zC.sorted(h:zC w B g EL n S a ρ){gi:Nat}(hr:ρ gi=8)(hg:w.grownBy w' (some gi)):zC w' B g EL n S a ρ:=
 (h.moveS (r:=8) (qo.grown hg (fun b e=>by injection e with e;subst e;exact hr)) (by decide)).all (zn _) h.len h.n0 h.n1 h.el
theorem zC.settled(h:zC w B g EL n S a ρ){gi:Nat}(hr:ρ gi=8):zC w B g EL n S a (qe ρ gi 7):=by
 have hu:∀b,b<w.heap.size→ρ b≠8→qe ρ gi 7 b=ρ b:=fun b _ hb=>Zs _ _ (fun e=>by subst e;exact hb hr);obtain⟨h0,h1,h2,h3⟩:=h.roles;exact(h.move (r:=8) (ρ':=qe ρ gi 7) qo.refl hu (by decide) (by rw[hu g h0 (by rw[h.r0];decide)];exact h.r0) (by rw[hu _ h1 (by rw[h.r1];decide)];exact h.r1) (by rw[hu _ h2 (by rw[h.r2];decide)];exact h.r2) (by rw[hu _ h3 (by rw[h.r3];decide)];exact h.r3)).all (zn _) h.len h.n0 h.n1 h.el
theorem zC.opn_cut(h:zC w B g EL n S a ρ){O X:List Nat}(e:S.opn=O++X):zC (w.setCell ⟨g,6,none⟩ (.slice a.Ao O.length a.co)) B g EL n {S with opn:=O} a ρ:=by
 have ho:w.ownsRow B 3 1 (.slice a.Ao O.length a.co) O.length (zQ O):=by
  have h1:=h.opn;rw[e,qd6,Xe]at h1;have:=qd4 (xs:=zQ O) (ys:=zQ X) (c:=a.co) (A:=a.Ao) (by rw[Xe,JW,JW];exact h1);rw[JW]at this;exact this
 have hr:∀b,(Value.slice a.Ao O.length a.co).ownBlock=some b→ρ b=5:=fun b hb=>h.r5 b (by rw[←hb];cases a.Ao<;>rfl);have p:=h.moveS (r:=0) (qo.cell (a:=⟨g,6,none⟩) h.r0 (.slice a.Ao O.length a.co)) (by decide);exact⟨p.low,p.size,h.len,h.n0,h.n1,p.edges,h.el,by have:=zd.set h.blk 6 (.slice a.Ao O.length a.co);exact this,p.pl (by decide),p.bk (by decide),p.gn (by decide),p.way (by decide),kw ho (qo.cell (ρ:=ρ) (a:=⟨g,6,none⟩) h.r0 _) (fun b hb=>by rw[hr b hb];decide),p.prt (by decide),p.pin (by decide),p.r0,p.r1,p.r2,p.r3,p.r4 (by decide),hr,p.r6 (by decide)⟩
theorem zC.way_cut(h:zC w B g EL n S a ρ){O X:List Nat}(e:S.way=O++X):zC (w.setCell ⟨g,5,none⟩ (.slice a.Ay O.length a.cy)) B g EL n {S with way:=O} a ρ:=by
 have ho:w.ownsRow B 3 1 (.slice a.Ay O.length a.cy) O.length (zQ O):=by
  have h1:=h.way;rw[e,qd6,Xe]at h1;have:=qd4 (xs:=zQ O) (ys:=zQ X) (c:=a.cy) (A:=a.Ay) (by rw[Xe,JW,JW];exact h1);rw[JW]at this;exact this
 have hr:∀b,(Value.slice a.Ay O.length a.cy).ownBlock=some b→ρ b=4:=fun b hb=>h.r4 b (by rw[←hb];cases a.Ay<;>rfl);have p:=h.moveS (r:=0) (qo.cell (a:=⟨g,5,none⟩) h.r0 (.slice a.Ay O.length a.cy)) (by decide);exact⟨p.low,p.size,h.len,h.n0,h.n1,p.edges,h.el,by have:=zd.set h.blk 5 (.slice a.Ay O.length a.cy);exact this,p.pl (by decide),p.bk (by decide),p.gn (by decide),kw ho (qo.cell (ρ:=ρ) (a:=⟨g,5,none⟩) h.r0 _) (fun b hb=>by rw[hr b hb];decide),p.opn (by decide),p.prt (by decide),p.pin (by decide),p.r0,p.r1,p.r2,p.r3,hr,p.r5 (by decide),p.r6 (by decide)⟩
end
theorem q9u(k n:Int)(w:World):Calls Tryz.prog 184 #[zU k n] w fun e w'=>e= .returned (.bool (kT k))∧Below w.heap.size w w':=by
 by_cases h:k=2∨k=3∨k=4
 ·have E:=zH (show kT k=true from Xm h);rcases h with rfl|rfl|rfl;all_goals
   go_enter Tryz.func184,Tryz.ntmps184;go_wp2
   go_ret;refine⟨?_,?_⟩
   ·rw[E.out];rfl
   ·exact(zb _ _).alloc (zn _) _
 ·have E:=zH (show kT k=false from Xg h);have h2:¬k=2:=by omega
  have h3:¬k=3:=by omega
  have h4:¬k=4:=by omega
  clear h;go_enter Tryz.func184,Tryz.ntmps184;go_wp2
  go_ret;refine⟨?_,?_⟩
  ·rw[E.out];simp[h2,h3,h4]
  ·exact(zb _ _).alloc (zn _) _
theorem QS(sup:List Int)(k n k' n':Int)(A:Option Addr)(cap B:Nat)(w:World)(hl:sup.length≤1048576)(hB:B≤w.heap.size)(h:qY w B A sup):
  Calls Tryz.prog 144 #[.slice A sup.length cap,zU k n,zU k' n'] w fun e w'=>e= .returned (.bool (zA sup k n k' n'))∧Below w.heap.size w w':=by
 have hW:Below w.heap.size w ((w.alloc (.cells #[.int .i64 k,.int .i64 n] 50)).alloc (.cells #[.int .i64 k',.int .i64 n'] 50)):=
  ((zb w.heap.size w).alloc (zn _) _).alloc (by simp) _
 have HS:=zH (h.below_to hW hB);have HW:=zH hW;have HB:=zH hB;clear h hW hB;by_cases h4:k=4
 ·subst h4;have e:zA sup 4 n k' n'=kT k':=by simp[zA]
  rw[e];clear e;go_enter Tryz.func144,Tryz.ntmps144;go_wp2_with(go_at_call 184;(with_reducible refine(q9u _ _ _).mono ?_);rintro e w' ⟨rfl,hb⟩)
  go_ret;exact⟨rfl,HW.out.trans (hb.mono (by simp;omega))⟩
 ·by_cases h3:k=3
  ·subst h3;by_cases hk:k'=3
   ·subst hk;have e:zA sup 3 n 3 n'=zX (zv sup n) n':=by simp[zA]
    rw[e];clear e;go_enter Tryz.func144,Tryz.ntmps144;go_wp2_with(go_at_call 185;(with_reducible refine(q9v sup n n' A cap B _ hl (by have:=HB.out;simp;omega) HS.out).mono ?_);rintro e w' ⟨rfl,hb⟩)
    go_ret;exact⟨rfl,HW.out.trans (hb.mono (by simp;omega))⟩
   ·have e:zA sup 3 n k' n'=false:=by simp[zA,hk]
    rw[e];clear e;go_enter Tryz.func144,Tryz.ntmps144;go_wp2_with fail
    go_ret;exact⟨by first|rfl|simp[hk],HW.out⟩
  ·by_cases h12:k=1∨k=2
   ·have e:zA sup k n k' n'=decide (k=k'∧n=n'):=by simp[zA,h3,h4,h12]
    rw[e];clear e;rcases h12 with rfl|rfl;all_goals
     go_enter Tryz.func144,Tryz.ntmps144;go_wp2_with fail
     all_goals
      go_ret;refine⟨?_,((zb _ _).alloc (zn _) _).alloc (by simp) _⟩;first|rfl|(simp[*];done)
   ·have e:zA sup k n k' n'=false:=by simp[zA,h3,h4,h12]
    rw[e];have h1:¬k=1:=by omega
    have h2:¬k=2:=by omega
    clear e h12;go_enter Tryz.func144,Tryz.ntmps144;go_wp2_with fail
    go_ret;exact⟨rfl,HW.out⟩
set_option maxHeartbeats 1600000 in
theorem qms(cl:List zJ)(c:Int)(A:Option Addr)(cap:Nat)(w:World)(hn:cl.length≤1048576)(h:ze qj 3 w w.heap.size A cap cl):
  Calls Tryz.prog 208 #[.slice A cl.length cap,.int .i64 c] w (vl (zv (zz cl) c) w):=by
 obtain⟨i0,hi,hz0,hz1,hz2⟩:=info_parts vT;have HC:=zH h;have HS:=zH (JP h.row);clear h;by_cases hk:0≤c∧c<cl.length
 ·obtain⟨k0,k1⟩:=hk;obtain⟨K,rfl⟩:=Xq k0;have k1':K<cl.length:=by omega
  have hlen:(zz cl).length=cl.length:=kq cl;obtain⟨sup,hsup⟩:∃sup,zz cl=sup:=⟨_,rfl⟩
  rw[hsup]at hlen HS⊢
  have HLN:=zH hlen;have hsl:sup.length≤1048576:=by omega
  have hkl:(K:Int)<sup.length:=by omega
  clear hsup;go_enter Tryz.func208,Tryz.ntmps208;clear hlen;go_wp2_with(go_at_call 211;(with_reducible refine(q8p cl K k1' A cap w HC.out).mono ?_);rintro e w1 ⟨rfl,hb⟩;have HB1:=zH hb;clear hb)
  go_loopw [1,5] (fun a v wr=>∃(C:Int) (pre:List Int),a= .int .i64 C∧ -1≤C∧C<sup.length∧Hid (pre++zv sup C=zv sup (K:Int))∧pre.length+C+1≤sup.length∧
    Hid (wr.ownsRow w.heap.size 3 1 v pre.length (pre.map (Value.int .i64)))∧Hid (Below w.heap.size w wr)) (fun a _ _=>(intOf a+1).toNat)
  case atStart=>exact⟨K,[],rfl,by omega,hkl,zH rfl,by simp;omega,zH (XQ _ _ _ _),HB1⟩
  case round=>
   obtain⟨C,pre,rfl,c0,c1,HP,hp,HO,HX⟩:=hrel;by_cases hC:C= -1
   ·subst hC;go_wp2_with fail
    go_ret;refine⟨_,rfl,?_,HX.out⟩;have e:pre=zv sup (K:Int):=by rw[←HP.out,JO (.inl (by omega))];simp
    rw[←e];exact HO.out
   ·have hC0:0≤C:=by omega
    have hCn:(C != -1)=true:=by simpa using hC
    have HST:=zH (q19 hC0 c1);have HBD:=zH (q0r sup C);have hsz:=HX.out.size;go_wp2_with(at_builtin;refine wpList_append_own _ rfl _ _ 26 rfl w.heap.size 3 i0 (.int .i64 0) 1 8 Tryz.underlying26 hi hz0 hz1 hz2 rfl (by decide) _ _ _ rfl (HO.out.alloc _) ⟨_,0,none⟩ 1 1 [.int .i64 C] rfl rfl ?c1 ?c2 ?c3 ?c4 ?c5 ?_)
    case c1=>
     intro j u hj
     match j,hj with
     |0,hj=>simp at hj;subst hj;simp[Addr.add]
    case c2=>intro u hu;simp at hu;subst hu;rfl
    case c3=>unfold maxLen;omega
    case c4=>omega
    case c5=>simp;omega
    intro v' w2 hown' hgrow _;have hR:=YD HO.out hsz HX.out hown' hgrow;have HO2:=zH hR.1;have HX2:=zH hR.2;clear hown' hgrow hR;go_wp2_with(go_at_call 212;(with_reducible refine(q5x HLN hC0 c1 A cap w.heap.size _ hsl HX2.out.size (HS.out.below_to HX2.out (zn _))).mono ?_);rintro e w3 ⟨rfl,hb⟩;have HB3:=zH hb;clear hb)
    go_roundw;case rel=>
     have hbd:=HBD.out;have:=hbd.2 hC0;exact⟨jH sup C,pre++[C],rfl,hbd.1,by omega,zH (by rw[←HP.out,HST.out];simp),by simp;omega,zH (zT HO2.out HB3.out (zL HO2.out)),zH (HX2.out.trans (HB3.out.mono HX2.out.size))⟩
    case measure=>have:=HBD.out.2 hC0;have:=HBD.out.1;simp[intOf];omega
 ·have hk':c<0∨(cl.length:Int)≤c:=by omega
  have E:=zH (show zv (zz cl) c=[]from JO (by rw[kq];exact hk'));clear hk;rw[E.out];go_enter Tryz.func208,Tryz.ntmps208;go_wp2_with(go_at_call 211;(with_reducible refine(q9w cl c hk' A cap w HC.out).mono ?_);rintro e w1 ⟨rfl,hb⟩;have HB1:=zH hb;clear hb)
  go_ret;exact⟨_,rfl,XQ _ _ _ _,HB1.out⟩
open Go.ChangeShapes Go.WideShapes Go.ChangeAt Go.RowKit Go.Shelf
attribute [local go_sem] Oper.semAt_some
def kJ(U:List Int):List (Fin U.length):=(List.finRange U.length).reverse
theorem q5v(U:List Int):(kJ U).length=U.length:=by simp[kJ]
theorem qll(U:List Int)(k:Nat)(h:k<U.length):(kJ U).take (k+1)=(kJ U).take k++[⟨U.length - 1 - k,by omega⟩]:=by
 have hk:k<(kJ U).length:=by rw[q5v];exact h
 rw[XH,Xc hk];simp[kJ,List.getElem_reverse]
theorem qq0(U:List Int):(kJ U).take U.length=kJ U:=XK (by rw[q5v];omega)
theorem qpz(U:List Int):(kJ U).map (fun x=>U[x])=U.reverse:=by
 unfold kJ;rw[List.map_reverse];congr 1;apply We
 ·simp
 ·intro i h1 h2;simp
def encU(U:List Int)(x:Fin U.length):Array Value:= #[.int .i64 (x.1:Int),.int .i64 U[x]]
def Kept(lo N:Nat)(A B:World):Prop:=∀q:Addr,lo≤q.block→q.block<N→B.cell? q=A.cell? q
def q0h(w:World)(lo N:Nat)(A:Option Addr)(xs:List Value):Prop:=∀j u,xs[j]? =some u→∃ad,A=some ad∧lo≤ad.block∧ad.block<N∧w.cell? (ad.add j)=some u
theorem q0h.keep{w w':World}{lo N:Nat}{A:Option Addr}{xs:List Value}(h:q0h w lo N A xs)(hk:Kept lo N w w'):q0h w' lo N A xs:=fun j u hu=>by
 obtain⟨ad,e,h0,h1,hc⟩:=h j u hu;exact⟨ad,e,h0,h1,(hk (ad.add j) (by rw[zu];exact h0) (by rw[zu];exact h1)).trans hc⟩
set_option maxHeartbeats 2000000 in
theorem qtz(F:Fence)(n:Nat)(hF:F.fn 223)(hro:F.round=none)(hn:1≤n)(l Bs lo N:Nat)(A:Option Addr)(cap:Nat)(U:List Int)(hU:U.length≤1048576){Kp:World→World→Prop}(hKp:∀A B,Kp A B→Kept lo N A B)(J Jx:List (Fin U.length)→World→Prop)
  (hY:∀pre x W,J pre W→pre.length<U.length→YieldAt F (n - 1) Tryz.prog l (encU U x) W fun e W'=>
   (e= .returned (.bool true)∧J (pre++[x]) W'∧Kp W W')∨(e= .returned (.bool false)∧Jx (pre++[x]) W'))
  (W:World) (hBs:W.cell? ⟨Bs,0,none⟩=some (.slice A U.length cap)) (hBl:lo≤Bs) (hBn:Bs<N) (hc:q0h W lo N A (U.map (Value.int .i64))) (h0:J [] W):
  CallsIn F n Tryz.prog 223 #[.func (.yield l) #[] #[],.pointer (some ⟨Bs,0,none⟩)] W fun e W'=>(∃v,e= .returned v)∧
   ((∃ys,ys=kJ U∧J ys W')∨(∃pre,(∃k,k≤U.length∧pre=(kJ U).take k)∧Jx pre W')):=by
 have HC:=zH hc;have HQ:Hid (∀wr,Kept lo N W wr→wr.cell? ⟨Bs,0,none⟩=some (.slice A U.length cap)):=zH (fun wr hw=>(hw ⟨Bs,0,none⟩ hBl hBn).trans hBs);clear hc;refine callsIn_of_wp Tryz.func223 rfl hF ?_ hro;simp only[Tryz.ntmps223,List.size_toArray,XJ,List.length_nil,Nat.reduceAdd,Nat.reduceSub,Array.replicate_succ,Array.replicate_zero,List.push_toArray,List.append_toArray,List.nil_append,List.cons_append]
 gi_wp2
 clear hBs
 gi_loopw [3] (fun i wr=>∃(k:Nat) (z:Int),k≤U.length∧i= .int .i64 z∧z=(U.length:Int) - k - 1∧J ((kJ U).take k) wr∧Hid (Kept lo N W wr))
  (fun i _=>(intOf i+1).toNat)
 case atStart=>exact⟨0,_,Xp _,rfl,by omega,h0,zH (fun _ _ _=>rfl)⟩
 case round=>
  obtain⟨k,z,hk,rfl,hz,hJs,hnx⟩:=hrel;by_cases hlt:k<U.length
  ·have hBs:=HQ.out wr hnx.out;have hjl:U.length - 1 - k<U.length:=by omega
   obtain⟨ad,rfl,hab0,hab,hcx⟩:=(HC.out.keep hnx.out) (U.length - 1 - k) _ (Xc (by simpa using hjl));obtain⟨fn,tmps,assign,body,hy,hR⟩:=hY _ ⟨U.length - 1 - k,hjl⟩ wr hJs (by rw[XO,q5v];omega);have HS:=zH (qll U k hlt);unfold encU at hy;rw[List.getElem_map]at hcx;dsimp only[Fin.getElem_fin]at hy;generalize U[U.length - 1 - k]=u at hcx hy;obtain⟨j,hj⟩:∃j,U.length - 1 - k=j:=⟨_,rfl⟩
   simp only[hj]at hcx hy hR HS;have hjl:j<U.length:=by omega
   obtain rfl:z=(j:Int):=by omega
   clear hz
   gi_wp2
   refine hR.mono ?_;rintro e W3 (⟨rfl,hJ3,hk3⟩|⟨rfl,hJx3⟩)
   ·gi_wp2
    go_roundw;case rel=>exact⟨k+1,(j:Int) - 1,by omega,by go_num,by omega,by rw[HS.out];exact hJ3,zH (fun q q0 q1=>(hKp _ _ hk3 q q0 q1).trans (hnx.out q q0 q1))⟩
    case measure=>simp[intOf]
   ·gi_wp2
    refine Xl (results_none rfl _ _ _) rfl ?_;exact⟨⟨_,rfl⟩,.inr ⟨_,⟨k+1,by omega,HS.out.symm⟩,hJx3⟩⟩
  ·obtain rfl:k=U.length:=by omega
   obtain rfl:z= -1:=by omega
   clear hz
   gi_wp2
   go_end0
   exact⟨⟨_,rfl⟩,.inl ⟨_,qq0 U,hJs⟩⟩
theorem qvi(F:Fence)(n:Nat)(hF:F.fn 207)(hro:F.round=none)(A:Option Addr)(len cap:Nat)(w:World):
  CallsIn F n Tryz.prog 207 #[.slice A len cap] w fun e w'=>e= .returned (.func (.func 223) #[] #[.pointer (some ⟨w.heap.size,0,none⟩)])∧w'=w.alloc (.cells #[.slice A len cap] 26):=by
 refine callsIn_of_wp Tryz.func207 rfl hF ?_ hro;simp only[Tryz.ntmps207,List.size_toArray,XJ,List.length_nil,Nat.reduceAdd,Nat.reduceSub,Array.replicate_succ,Array.replicate_zero,List.push_toArray,List.append_toArray,List.nil_append,List.cons_append]
 gi_wp2
 go_ret;exact⟨rfl,rfl⟩
theorem qmb(F:Fence)(n:Nat)(hF:F.fn 223)(hro:F.round=none)(hn:1≤n)(Bs lo N:Nat)(A:Option Addr)(cap:Nat)(U:List Int)(hU:U.length≤1048576){Kp:World→World→Prop}(hKp:∀A B,Kp A B→Kept lo N A B)(w:World)(hBl:lo≤Bs)(hBs:Bs<N)(hn₀:N≤w.heap.size)
  (hc:w.cell? ⟨Bs,0,none⟩=some (.slice A U.length cap)) (hI:q0h w lo N A (U.map (Value.int .i64))):
  SeqStopsK F n Tryz.prog 223 #[.pointer (some ⟨Bs,0,none⟩)] (encU U) Kp (fun ys=>ys=kJ U)
   (fun pre=>∃k,k≤U.length∧pre=(kJ U).take k) U.length w:=fun l J Jx W hW _ _ hY h0=>
 qtz F n hF hro hn l Bs lo N A cap U hU hKp J Jx hY W ((hW.cell (p:=⟨Bs,0,none⟩) (Xj hBs hn₀)).trans hc) hBl hBs (hI.keep fun q _ q1=>hW.cell (Xj q1 hn₀)) h0
theorem qc9(k n cap:Nat)(ad:Addr)(x y:Int)(w:World)(hk:k<n)(hn:n≤9223372036854775807)(hab:ad.block<w.heap.size)
  (r0:w.cell? (ad.add (k*2))=some (.int .i64 x)) (r1:w.cell? (zf (ad.add (k*2)) 1)=some (.int .i64 y)):
  Calls Tryz.prog 206 #[.slice (some ad) n cap,.int .i64 k] w fun e w'=>e= .returned (.tuple #[zU x y,.bool true])∧Below w.heap.size w w':=by
 have HW:=zH ((zb w.heap.size w).alloc (zn _) (.cells #[.int .i64 0,.int .i64 0] 50));have r0:=(HW.out.cell (p:=ad.add (k*2)) (by rw[zu];exact hab)).trans r0;have r1:=(HW.out.cell (p:=zf (ad.add (k*2)) 1) (by show(ad.add _).block<_;rw[zu];exact hab)).trans r1;go_enter Tryz.func206,Tryz.ntmps206;go_wp2
 exact Xl (v:= .tuple #[zU x y,.bool true]) (by simp[results,Tryz.results206,go_sem]) rfl ⟨rfl,(zb _ _).alloc (zn _) _⟩
theorem q7y{P:Prop}(h:P:=by
 go_enter Tryz.func206,Tryz.ntmps206;go_wp2
 exact Xl (v:= .tuple #[zU 0 0,.bool false]) (by simp[results,Tryz.results206,go_sem]) rfl ⟨rfl,((zb _ _).alloc (zn _) _).alloc (by simp) _⟩):P:=h
theorem qdy(k:Int)(n cap:Nat)(A:Option Addr)(w:World)(hn:n≤9223372036854775807)(hk:k<0∨(n:Int)≤k):
  Calls Tryz.prog 206 #[.slice A n cap,.int .i64 k] w fun e w'=>e= .returned (.tuple #[zU 0 0,.bool false])∧Below w.heap.size w w':=by
 by_cases h0:k<0
 ·clear hk;exact q7y
 ·have h1:(n:Int)≤k:=by omega
  have h2:0≤k:=by omega
  clear hk h0;exact q7y
theorem q2y(k n c:Int)(w:World):Calls Tryz.prog 167 #[zU k n,.int .i64 c] w fun e w'=>e= .returned (.bool (jn k n c))∧Below w.heap.size w w':=by
 by_cases h3:k=3
 ·subst h3;by_cases h0:0≤n
  ·by_cases h1:n<c
   ·have E:=zH (show jn 3 n c=true from Xm (by omega));go_enter Tryz.func167,Tryz.ntmps167;go_wp2
    go_ret;refine⟨?_,(zb _ _).alloc (zn _) _⟩;rw[E.out];rfl
   ·have E:=zH (show jn 3 n c=false from Xg (by omega));go_enter Tryz.func167,Tryz.ntmps167;go_wp2
    go_ret;refine⟨?_,(zb _ _).alloc (zn _) _⟩;rw[E.out];first|rfl|simp[h1]
  ·have E:=zH (show jn 3 n c=false from Xg (by omega));go_enter Tryz.func167,Tryz.ntmps167;go_wp2
   go_ret;refine⟨?_,(zb _ _).alloc (zn _) _⟩;rw[E.out];first|rfl|simp[h0]
 ·have E:=zH (show jn k n c=(decide (k=1∧n=0)||decide (k=2∧n=0))by
   unfold jn;rw[XV];simp;omega)
  by_cases h1:k=1∧n=0
  ·obtain⟨rfl,rfl⟩:=h1;go_enter Tryz.func167,Tryz.ntmps167;go_wp2
   go_ret;refine⟨?_,(zb _ _).alloc (zn _) _⟩;rw[E.out];rfl
  ·by_cases h2:k=2∧n=0
   ·obtain⟨rfl,rfl⟩:=h2;go_enter Tryz.func167,Tryz.ntmps167;go_wp2
    go_ret;refine⟨?_,(zb _ _).alloc (zn _) _⟩;rw[E.out];rfl
   ·go_enter Tryz.func167,Tryz.ntmps167;go_wp2
    all_goals
     go_ret;refine⟨?_,(zb _ _).alloc (zn _) _⟩;rw[E.out];first|rfl|(simp_all;done)|(simp;omega)
theorem qmq(n:Int)(h₀:0≤n)(h₁:n<2 ^ 62):IntKind.i64.wrap n=n:=by rw[IntKind.wrap_i64];omega
theorem quw(k N c:Nat)(hk:k<5)(hN:N<128 ^ k):bits .or .i64 (N:Int) ((c:Int) % 128*2 ^ (7*k))=((N+128 ^ k*(c % 128):Nat):Int):=by
 have hp:(128:Nat) ^ k=2 ^ (7*k):=by rw[Nat.pow_mul]
 have hpk:(128:Nat) ^ k≤128 ^ 4:=Nat.pow_le_pow_right (by decide) (by omega);have e:(c:Int) % 128*2 ^ (7*k)=((2 ^ (7*k)*(c % 128):Nat):Int):=by
  rw[Int.natCast_mul,Int.mul_comm];simp
 have hle:2 ^ (7*k)*(c % 128)≤128 ^ 4*127:=by
  rw[←hp];exact Nat.mul_le_mul hpk (by omega)
 rw[e,(bits_nat .i64 62 (by decide) qmq N (2 ^ (7*k)*(c % 128)) (by omega) (by omega)).2,Nat.or_comm,←Nat.two_pow_add_eq_or_of_lt (by omega),hp];congr 1;omega
theorem qvk(c:Int)(h0:0≤c)(h1:c≤255):bits .and .u8 c 127=c % 128:=
 bits_mask .u8 8 (by decide) wraps_u8 7 (by decide) c h0 (by omega)
theorem q6w(k N:Nat)(c:Int)(h0:0≤c)(h1:c≤255)(hk:k<5)(hN:N<128 ^ k):
  bits .or .i64 (N:Int) (wrap64 (wrap64 (bits .and .u8 c 127)*2 ^ (7*k)))=((N+128 ^ k*(c.toNat % 128):Nat):Int):=by
 have w1:wrap64 (c % 128)=c % 128:=by unfold wrap64;omega
 have hp:(2:Int) ^ (7*k)≤2 ^ 28:=by
  have:(2:Nat) ^ (7*k)≤2 ^ 28:=Nat.pow_le_pow_right (by decide) (by omega)
  exact_mod_cast this
 have hq:(0:Int)≤2 ^ (7*k):=Int.pow_nonneg (by decide);have m0:0≤c % 128*2 ^ (7*k):=Int.mul_nonneg (by omega) hq;have m1:c % 128*2 ^ (7*k)≤127*2 ^ 28:=Int.mul_le_mul (by omega) hp hq (by decide);have w2:wrap64 (c % 128*2 ^ (7*k))=c % 128*2 ^ (7*k):=by
  generalize c % 128*2 ^ (7*k)=z at*
  unfold wrap64;omega
 rw[qvk c h0 h1,w1,w2];obtain⟨n,rfl⟩:=Xq h0;simpa using quw k N n hk hN
theorem qs3(k N c:Nat)(h:N<128 ^ k):N+128 ^ k*(c % 128)<128 ^ (k+1):=by
 rw[Nat.pow_succ];have:128 ^ k*(c % 128)≤128 ^ k*127:=Nat.mul_le_mul_left _ (by omega);omega
set_option maxRecDepth 1000000 in
set_option maxHeartbeats 1600000 in
theorem q57(l:List Int)(A:Option Addr)(cap B:Nat)(w:World)(hl:l.length≤cap)(hm:cap≤9223372036854775807)(hr:∀b ∈l,0≤b∧b≤255)(h:zq w B A (l.map (Value.int .u8))):
  Calls Tryz.prog 163 #[.slice A l.length cap] w (IsPair (jc l) w):=by
 have HL:=zH h;have HR:=zH hr;have hmx:(max 5 0:Int)=5:=by decide
 clear h hr;have h5:l.length<5∨(5≤l.length∧5≤cap):=by omega
 rcases h5 with h5|⟨h5,h5'⟩
 all_goals
  go_enter Tryz.func163,Tryz.ntmps163;go_wp2
  all_goals
   go_loop [2,12] (fun n i=>∃k N:Nat,k≤5∧k≤l.length∧i= .int .i64 k∧n= .int .i64 N∧Hid (N<128 ^ k)∧Hid (jc l=ka (5 - k) k N (128 ^ k) (l.drop k))) (fun _ i=>5 - (intOf i).toNat)
   case atStart=>exact⟨0,0,by omega,by omega,rfl,rfl,zH (by omega),zH rfl⟩
   case round=>
    obtain⟨k,N,hk,hkl,rfl,rfl,HNU,HN⟩:=hrel;by_cases h5:k<5∧k<l.length
    ·obtain⟨g5,gl⟩:=h5;obtain⟨ad,rfl,_,hc⟩:=HL.out.at_ (k:=k) (by simpa using gl);obtain⟨b0,b1⟩:=HR.out l[k] (Xf gl);have E1:=zH (Wq gl);simp only[List.getElem_map]at hc;generalize l[k]=b at*
     obtain⟨c,rfl⟩:=Xq b0;have E2:=zH (show 5 - k=(5 - (k+1))+1 by omega);have STEP:Hid (jc l=if c<128 then(if 0<k∧c=0 then(0,0)else(N+128 ^ k*(c % 128),k+1))else ka (5 - (k+1)) (k+1) (N+128 ^ k*(c % 128)) (128 ^ k*128) (l.drop (k+1))):=by
      have:=HN.out;rw[E1.out,E2.out]at this;simp only[ka,Xi]at this;refine zH (this.trans ?_);by_cases h1:c<128
      ·rw[Xb h1,Xb (by omega)];by_cases h2:0<k∧c=0
       ·rw[Xb h2,Xb (by omega)]
       ·rw[Xa h2,Xa (by omega)]
      ·rw[Xa h1,Xa (by omega)]
     clear E1 E2;by_cases h1:c<128
     ·by_cases h2:0<k∧c=0
      ·obtain⟨h2,rfl⟩:=h2;have R:=zH (show jc l=(0,0)by rw[STEP.out];simp[h2]);clear STEP;go_wp2_with fail
       go_ret2
       refine⟨?_,rfl⟩;rw[R.out];rfl
      ·have R:=zH (show jc l=(N+128 ^ k*(c % 128),k+1)by rw[STEP.out,Xb h1,Xa h2]);have OR:=zH (q6w k N c b0 b1 g5 HNU.out);clear STEP;by_cases h3:0<k
       ·have h4:¬c=0:=fun h=>h2 ⟨h3,h⟩;clear h2;have h5:((c:Int)==0)=false:=by simpa using h4
        go_wp2_with fail
        go_ret2
        refine⟨?_,rfl⟩;rw[R.out,OR.out];simp
       ·clear h2;go_wp2_with fail
        all_goals
         go_ret2
         refine⟨?_,rfl⟩;first
          |(rw[R.out,OR.out];simp;done)
          |(have h0:c=0:=by assumption
            rw[R.out,q6w k N 0 (by decide) (by decide) g5 HNU.out,h0];simp)
     ·have R:=zH (show jc l=ka (5 - (k+1)) (k+1) (N+128 ^ k*(c % 128)) (128 ^ k*128) (l.drop (k+1))by rw[STEP.out,Xa h1]);have OR:=zH (q6w k N c b0 b1 g5 HNU.out);clear STEP;go_wp2_with fail
      go_round
      case rel=>exact⟨k+1,N+128 ^ k*(c % 128),by omega,by omega,by go_num,by rw[OR.out];rfl,zH (qs3 k N c HNU.out),zH (by rw[R.out,Nat.pow_succ])⟩
      case measure=>simp[intOf];omega
    ·have Z:Hid (jc l=(0,0)):=by
      refine zH (HN.out.trans ?_);rcases Xk k 5 with h|h
      ·rw[List.drop_eq_nil_of_le (by omega)];cases 5 - k<;>rfl
      ·have:5 - k=0:=by omega
       rw[this];cases l.drop k<;>rfl
     have h6:k=5∨l.length=k:=by omega
     clear h5;go_wp2_with fail
     all_goals
      go_ret2
      refine⟨?_,rfl⟩;rw[Z.out];rfl
end Go.Proofs.YtcmiljnbmgkdnaaGreat
