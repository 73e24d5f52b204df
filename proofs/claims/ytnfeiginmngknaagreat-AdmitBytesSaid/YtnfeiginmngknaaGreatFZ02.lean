import Derived.Test.YtnfeiginmngknaaGreatFZ01
import Derived.ChangeAlike
import Derived.RangeFuncNested
import Derived.RangeFuncBound
import Derived.RangeFuncBox
import Derived.RangeFuncLeaves
import Derived.Shelf.Abstract
import Derived.Shelf.RegionOpen
import Derived.TacticsInMore
import Derived.LoopNIn
import Derived.LoopIn
namespace Go.Proofs.YtnfeiginmngknaaGreat
set_option maxRecDepth 100000
set_option linter.unusedVariables false
set_option linter.unusedSimpArgs false
open Go.ChangeShapes Go.WideShapes Go.ChangeAt Go.RowKit
def zy(cl:List zW):List Int:=cl.map (·.sup)
def ZM(cl:List zW)(i:Int):List (Int×Int):=match cl[i.toNat]? with
 |some c=>c.fields
 |none=> []
def qg(cl:List zW)(c:Int):List (Int×Int):=(zz (zy cl) c).reverse.flatMap (ZM cl)
theorem eB{w:World}{B:Nat}{A:Option Addr}{cl:List zW}(h:qD vw 3 w B A cl):jh w B A (zy cl):=fun i s hs=>by
 unfold zy at hs;rw[XF]at hs;cases hc:cl[i]? with
 |none=>rw[hc]at hs;simp at hs
 |some c=>
  rw[hc]at hs;simp at hs;subst hs;obtain⟨ad,e,hb,hx⟩:=h i c hc;exact⟨ad,e,hb,hx.sup⟩
theorem kE(cl:List zW):(zy cl).length=cl.length:=Xm _
theorem qab(sup:List Int)(c:Nat):∀i ∈ig sup c,0<=i/\i<=c/\i<sup.length:=by
 induction c using Nat.strongRecOn with
 |ind c ih=>
  intro i hi;rcases Xl c sup.length with g|g
  ·rw[Dp (Xc g)]at hi;rcases XZ.mp hi with rfl|hi
   ·omega
   ·split at hi
    ·rename_i hs;unfold zz at hi;split at hi
     ·rename_i h0;have:=ih (sup[c].toNat) (by omega) i hi;omega
     ·simp at hi
    ·simp at hi
  ·rw[yL g]at hi;simp at hi
theorem Ux{sup:List Int}{c i:Int}(h:i ∈zz sup c):0<=i/\i<sup.length:=by
 unfold zz at h;split at h
 ·have:=qab sup c.toNat i h;omega
 ·simp at h
def vC(l:List (Int×Int))(n:Int):Bool:=l.all fun t=>jl t.1 t.2 n
theorem bM:(Tryz.prog.info? 45).map (fun i=>(i.zero,i.size,i.bytes))=some (some (.agg #[.int .i64 0,.int .i64 0]),2,16):=by kernel_rfl
theorem jJ{P:Program}{t:TypeId}{z:Value}{k b:Nat}(h:(P.info? t).map (fun i=>(i.zero,i.size,i.bytes))=some (some z,k,b)):∃i,P.info? t=some i/\i.zero=some z/\i.size=k/\i.bytes=b:=by
 simp_all
def eO(l:List (Int×Int))(w:World)(e:Ending)(w':World):Prop:=
 ∃v,e= .returned v/\w'.ownsRow w.heap.size 45 2 v l.length (zN l)/\Below w.heap.size w w'
theorem Wv{w:World}{B:Nat}{A:Option Addr}{l:List Int}(h:zw w B A (l.map (Value.int .i64))){k:Nat}(hk:k<l.length):∃ad,A=some ad/\ad.block<B/\w.cell? (ad.add k)=some (.int .i64 l[k]):=by
 obtain⟨ad,e,hb,hc⟩:=h.at_ (k:=k) (by grind)
 grind
theorem yU{cl:List zW}(h:∀c ∈cl,c.fields.length<=1000):∀l:List Int,(l.flatMap (ZM cl)).length<=1000*l.length
 | []=>by simp
 |i::l=>by
  rw[List.flatMap_cons,Xh,XI];have:=yU h l;have hi:(ZM cl i).length<=1000:=by
   unfold ZM
   grind
  omega
theorem Ku{sup U:List Int}{c:Int}{A:Option Addr}{cap n:Nat}{w:World}(HN:Hid (sup.length=n))(hn:n<=1048576)(HU:Hid (zz sup c=U))(HS:Hid (jh w w.heap.size A sup)):
  Calls Tryz.prog 65 #[.slice A n cap,.int .i64 c] w (ZR U w):=by
 obtain rfl:=HN.out;have h:=DI sup c A cap w.heap.size w hn (zn _) HS.out;rw[HU.out]at h;exact h
theorem PK{cl:List zW}{i:Nat}(h:i<cl.length):ZM cl (i:Int)=cl[i].fields:=by
 unfold ZM
 grind
set_option maxHeartbeats 1600000 in
theorem PT(m:za)(c:Int)(h:zh)(w:World)(H:zr w w.heap.size h m)(hn:m.classes.length<=1000)(hf:∀x ∈m.classes,x.fields.length<=1000):
  Calls Tryz.prog 41 #[zv h m,.int .i64 c] w (eO (qg m.classes c) w):=by
 obtain⟨i0,hi,hz0,hz1,hz2⟩:=jJ bM;have HW:=zH (zk (w:=w) (o:=(ze h m)));have zO:=zH (H.now HW.out);have HBX:=zH (qd w h m);have HZ:Hid (w.heap.size<(w.alloc (ze h m)).heap.size):=zH (by simp);have HF:=zH hf;have HS:=zH (eB zO.out.classes.row);have hsl:(zy m.classes).length=m.classes.length:=kE _;have lG:=zH (show qg m.classes c=(zz (zy m.classes) c).reverse.flatMap (ZM m.classes)from rfl);obtain⟨U,hU⟩:=zj (zz (zy m.classes) c);have iZ:U.length<=1000:=by grind [pz]
 have Mr:Hid (∀i ∈U,0<=i/\i<m.classes.length):=zH (by rw[<-hU];intro i hi;have:=Ux hi;omega);have HU:=zH hU;rw[hU]at lG;have Zu:=zH hsl;clear hsl hU H hf;go_enter Tryz.func41,Tryz.ntmps41;go_upto_region 1 with fail
 generalize w.alloc (ze h m)=w1 at*
 obtain⟨q0,q1,q2,q3,q4,q5,q6⟩:=HBX.out;go_upto_region 2 with(go_at_call 65;(with_reducible refine(Ku Zu (by omega) HU HS).mono ?_);rintro e w2 ⟨v2,rfl,ho,hb⟩;have HB2:=zH hb;obtain⟨A2,c2,rfl,hl2,g1,g2⟩:=Ji ho;have HL2:=zH hl2;clear hb ho hl2)
 have HI2:=zH (zO.out.now HB2.out);clear q0 q1 q2 q3 q4 q5 q6;obtain⟨q0,q1,q2,q3,q4,q5,q6⟩:=HBX.out.keep HB2.out HZ.out;go_wp2
 go_loopw [6,7] (fun v i wr=>∃(k:Nat) (z:Int),k<=U.length/\i= .int .i64 z/\z=(k:Int) - 1/\Hid (wr.ownsRow w2.heap.size 45 2 v ((U.drop k).reverse.flatMap (ZM m.classes)).length (zN ((U.drop k).reverse.flatMap (ZM m.classes))))/\Hid (Below w2.heap.size w2 wr)) (fun _ i _=>(intOf i+1).toNat)
 case atStart=>exact⟨U.length,_,zn _,rfl,rfl,zH (by rw[List.drop_length];exact bJ w2 _ 2),zH (zk)⟩
 case round=>
  clear q0 q1 q2 q3 q4 q5 q6;obtain⟨k,z,hk,rfl,hz,HO,HX⟩:=hrel;rcases k with _|j
  ·obtain rfl:z= -1:=by omega
   clear hz;go_wp2_with fail
   go_ret;refine⟨_,rfl,?_,HW.out.trans ((zD HB2 HX).mono (Xg HZ.out))⟩;rw[lG.out];exact js (by simpa using HO.out) (Xe (Xg HZ.out) HB2.out.size)
  ·obtain rfl:z=(j:Int):=by omega
   clear hz;have hjl:j<U.length:=hk;obtain⟨q0,q1,q2,q3,q4,q5,q6⟩:=HBX.out.keep (zD HB2 HX) HZ.out;obtain⟨ad,rfl,had,hc⟩:=Wv HL2.out hjl;obtain⟨u0,u1⟩:=Mr.out U[j] (Xd hjl);have HT:Hid ((U.drop j).reverse.flatMap (ZM m.classes)=(U.drop (j+1)).reverse.flatMap (ZM m.classes)++ZM m.classes U[j]):=zH (by rw[Wq hjl,List.reverse_cons,Wa,List.flatMap_singleton]);have hsum:=yU HF.out (U.drop (j+1)).reverse;have hsl:(U.drop (j+1)).reverse.length<=1000:=by rw[List.length_reverse,XK];omega
   generalize U[j]=u at*
   obtain⟨n,rfl⟩:=Xj u0;have hnl:n<m.classes.length:=by omega
   have hfx:=HF.out _ (Xd hnl);have Zg:=zH (PK hnl);obtain⟨Vj,e0,hab,hcl⟩:=HI2.out.classes.row.at_ hnl;generalize m.classes[n]=x at*
   rw[Zg.out]at HT;obtain⟨L,hL⟩:=zj ((U.drop (j+1)).reverse.flatMap (ZM m.classes));rw[hL]at HT HO hsum;have Qx:L.length<=1000000:=by omega
   obtain⟨s0,⟨A1,k1,s1,hs1⟩,_⟩:=hcl;rw[e0]at q0;have kB:Hid (∀W,Below w2.heap.size w2 W->W.cell? (ad.add j)=some (.int .i64 (n:Int))):=zH (fun W hW=>(hW.cell (p:=ad.add j) (by exact zZ had)).trans hc);have HS2:Hid (∀W,Below w2.heap.size w2 W->W.cell? (zc (Vj.add (n*3)) 1)=some (.slice A1 x.fields.length k1)):=zH (fun W hW=>(hW.cell (p:=zc (Vj.add (n*3)) 1) (by show(Vj.add _).block<_;rw[zC];exact hab)).trans s1);have kx:Hid (∀W,Below w2.heap.size w2 W->W.cell? ⟨w.heap.size,0,none⟩=some (.slice (some Vj) m.classes.length h.c0)):=zH (fun W hW=>by have:=(HBX.out.keep (HB2.out.trans (hW.mono HB2.out.size)) HZ.out).1;rw[e0]at this;exact this);have hc:=kB.out _ HX.out;have s1:=HS2.out _ HX.out;have Vu:=zH (YQ (hs1.below_to zf.keeps HX.out (zn _)).row);have hsz:=HX.out.size;clear e0 hs1 hL hsum hsl s0 u0 u1;go_upto_region 6 with fail
   have HO:Hid (wr.drew.ownsRow w2.heap.size 45 2 u6 L.length (zN L)):=HO;have HX:Hid (Below w2.heap.size w2 wr.drew):=zH HX.out.drew;have Vu:Hid (zw wr.drew w2.heap.size A1 (zN x.fields)):=Vu;have hsz:w2.heap.size<=wr.drew.heap.size:=hsz;refine wp_region_noPanic ?_;refine wp_region_held_drew (S:=(fun w'=>w'.cell? ⟨w.heap.size,0,none⟩=some (.slice (some Vj) m.classes.length h.c0)/\w'.cell? (ad.add j)=some (.int .i64 (n:Int))/\w'.cell? (zc (Vj.add (n*3)) 1)=some (.slice A1 x.fields.length k1))) (by kernel_rfl) ⟨q0,hc,s1⟩ (fun hHeld=> ?_);refine mT 0 (h:=mT 1 (h:=mT 2 (h:=mT 3 (h:=mT 4 (h:=mT 5 (h:=mT 6 (h:=mT 7 (h:= ?_))))))));refine mT 8 (h:=mT 9 (h:= ?_));refine mR 10 (h:=fun K hK=> ?_)
   (refine gL rfl _ _ 24 rfl w2.heap.size 45 i0 (.agg #[.int .i64 0,.int .i64 0]) 2 16 Tryz.underlying24 hi hz0 hz1 hz2 rfl (by decide) _ L.length (zN L) rfl HO.out A1 x.fields.length k1 _ (zN x.fields) (Yt _) rfl Vu.out (QM _) (by unfold maxLen;omega) (by omega) hsz ?_;intro v6 w6 hown hgrow;have HX6:=zH (jx HX.out HO.out hsz hgrow);have HO6:=zH hown;clear hown hgrow)
   refine mK hK ⟨kx.out _ HX6.out,kB.out _ HX6.out,HS2.out _ HX6.out⟩ (h:=fun hHeld=> ?_);clear hK K;refine mT 11 (h:= ?_);refine wpAnyH_done (by kernel_rfl) ?_ _;refine NoPanic.normal ?_;go_wp2_with fail
   go_roundw;case rel=>
    refine⟨j,(j:Int) - 1,by omega,by go_num,rfl,zH ?_,HX6⟩;rw[HT.out];unfold zN at HO6⊢
    rw[Wa,Xh];exact HO6.out
   case measure=>simp[intOf]
section
variable{m:za}{h:zh}{w0 w:World}{c:Int}
theorem DF{L:List (Int×Int)}(HI:Hid (zr w0 w0.heap.size h m))(HX:Hid (Below w0.heap.size w0 w))(HL:Hid (qg m.classes c=L))(hn:m.classes.length<=1000)(HF:Hid (∀x ∈m.classes,x.fields.length<=1000)):
  Calls Tryz.prog 41 #[zv h m,.int .i64 c] w (eO L w):=by
 have H:=PT m c h w (HI.out.now HX.out) hn HF.out;rw[HL.out]at H;exact H
end
theorem yK{cl:List zW}(h:∀c ∈cl,c.fields.length<=1000)(hn:cl.length<=1000)(c:Int):(qg cl c).length<=1000000:=by
 have h1:=yU h (zz (zy cl) c).reverse;have h2:=pz (zy cl) c;rw[kE]at h2;rw[List.length_reverse]at h1;show((zz (zy cl) c).reverse.flatMap (ZM cl)).length<=1000000;omega
theorem IK{P:Prop}(h:P:=by
 go_enter Tryz.func90,Tryz.ntmps90;go_wp2
 go_ret;refine⟨?_,?_⟩
 ·rw[E.out];first|rfl|simp[h1]
 ·exact zk):P:=h
theorem Kt(k n c:Int)(w:World):Calls Tryz.prog 90 #[zF k n,.int .i64 c] w fun e w'=>e= .returned (.bool (jl k n c))/\Below w.heap.size w w':=by
 by_cases h:(k=1\/k=2)/\n=0\/k=3/\0<=n/\n<c
 ·have E:=zH (show jl k n c=true from Xi h);rcases h with⟨rfl|rfl,rfl⟩|⟨rfl,h0,h1⟩
  all_goals
   go_enter Tryz.func90,Tryz.ntmps90;go_wp2
   go_ret;refine⟨?_,?_⟩
   ·rw[E.out];rfl
   ·exact zk
 ·have E:=zH (show jl k n c=false from Xf h);have h':(¬k=1/\¬k=2/\¬k=3)\/(k=1/\¬n=0)\/(k=2/\¬n=0)\/(k=3/\n<0)\/(k=3/\0<=n/\c<=n):=by omega
  clear h;rcases h' with⟨h1,h2,h3⟩|⟨rfl,h1⟩|⟨rfl,h1⟩|⟨rfl,h1⟩|⟨rfl,h1,h2⟩
  ·have e1:decide (k=1)=false:=Xf h1;have e2:decide (k=2)=false:=Xf h2;have e3:decide (k=3)=false:=Xf h3;go_enter Tryz.func90,Tryz.ntmps90;go_wp2
   go_ret;refine⟨?_,?_⟩
   ·rw[E.out];first|rfl|simp[h1,h2,h3]
   ·exact zk
  ·have e1:decide (n=0)=false:=Xf h1;exact IK
  ·have e1:decide (n=0)=false:=Xf h1;exact IK
  ·have e1:decide (0<=n)=false:=Xf (by omega);exact IK
  ·have e1:decide (n<c)=false:=Xf (by omega);go_enter Tryz.func90,Tryz.ntmps90;go_wp2
   go_ret;refine⟨?_,?_⟩
   ·rw[E.out];first|rfl|simp[h1,h2]
   ·exact zk
set_option maxHeartbeats 1600000 in
theorem q6u(m:za)(l:List (Int×Int))(h:zh)(A:Option Addr)(cap:Nat)(w:World)(H:zr w w.heap.size h m)(hl:zd zf 2 w w.heap.size A cap l):
  Calls Tryz.prog 49 #[zv h m,.slice A l.length cap] w fun e w'=>e= .returned (.bool (vC l m.classes.length))/\Below w.heap.size w w':=by
 have HW:=zH (zk (w:=w) (o:=(ze h m)));have HBX:=zH (qd w h m);have HZ:Hid (w.heap.size<(w.alloc (ze h m)).heap.size):=zH (by simp);have HL:=zH ((hl.below_to zf.keeps HW.out (zn _)).keep' zf.keeps HW.out.size (fun _ _=>rfl));have l1:=hl.le;have l2:=hl.cap;obtain⟨b,hb⟩:=zj (vC l m.classes.length);rw[hb];have E:=zH hb.symm;have c1:=H.classes.le;have c2:=H.classes.cap;clear hb hl H;go_enter Tryz.func49,Tryz.ntmps49;go_upto_region 1 with fail
 generalize w.alloc (ze h m)=w1 at*
 go_wp2
 go_loopw [5] (fun i wr=>∃k:Nat,k<=l.length/\i= .int .i64 k/\Hid (∀t ∈l.take k,jl t.1 t.2 m.classes.length=true)/\Hid (Below w1.heap.size w1 wr)) (fun i _=>l.length - (intOf i).toNat)
 case atStart=>exact⟨0,by omega,rfl,zH (by simp),zH (zb _ _)⟩
 case round=>
  obtain⟨k,hk,rfl,HN,HX⟩:=hrel;obtain⟨q0,q1,q2,q3,q4,q5,q6⟩:=HBX.out.keep HX.out HZ.out;by_cases hlt:k<l.length
  ·obtain⟨ad,rfl,hab,r0,r1⟩:=HL.out.row.at_ hlt;have qz:=zH (fun g:(fun t:Int×Int=>jl t.1 t.2 m.classes.length) l[k]=false=>(JP hlt g:vC l m.classes.length=false));have HYE:=zH (fun g:(fun t:Int×Int=>jl t.1 t.2 m.classes.length) l[k]=true=>Jk hlt HN.out g);generalize l[k]=t at*
   obtain⟨x,y⟩:=t;dsimp only at r0 r1;obtain⟨g,hg⟩:=zj (jl x y m.classes.length);have G:=zH hg;clear hg;have qf:=zH HX.out.drew;have HR:Hid (∀W,Below w1.heap.size w1 W->W.cell? (ad.add (k*2))=some (.int .i64 x)/\W.cell? (zc (ad.add (k*2)) 1)=some (.int .i64 y)):=zH (fun W hW=>zf.keeps (x:=(x,y)) ⟨r0,r1⟩ (by exact zZ hab) (zn _) (fun _ hq=>hW.cell hq));obtain⟨r0,r1⟩:=HR.out _ HX.out;cases g
   ·have E2:=zH (show b=false from E.out.trans (qz.out G.out));go_wp2_with fail
    go_region_held3 (fun w'=>w'.cell? (ad.add (k*2))=some (.int .i64 x)/\w'.cell? (zc (ad.add (k*2)) 1)=some (.int .i64 y)/\w'.cell? ⟨w.heap.size,0,none⟩=some (.slice h.A0 m.classes.length h.c0)) (first|exact⟨r0,r1,q0⟩)
     (first|(go_at_call 90;(with_reducible refine(Kt x y m.classes.length _).mono ?_);rintro e w3 ⟨he,hb⟩;rw[G.out]at he;subst he;have zp:=zi qf hb;obtain⟨q0,q1,q2,q3,q4,q5,q6⟩:=HBX.out.keep zp.out HZ.out;obtain⟨r0,r1⟩:=HR.out _ zp.out;clear hb))
    go_wp2_with fail
    go_ret;exact⟨by rw[E2.out];rfl,HW.out.trans (zp.out.mono (Xg HZ.out))⟩
   ·have E2:=zH (HYE.out G.out);go_wp2_with fail
    go_region_held3 (fun w'=>w'.cell? (ad.add (k*2))=some (.int .i64 x)/\w'.cell? (zc (ad.add (k*2)) 1)=some (.int .i64 y)/\w'.cell? ⟨w.heap.size,0,none⟩=some (.slice h.A0 m.classes.length h.c0)) (first|exact⟨r0,r1,q0⟩)
     (first|(go_at_call 90;(with_reducible refine(Kt x y m.classes.length _).mono ?_);rintro e w3 ⟨he,hb⟩;rw[G.out]at he;subst he;have zp:=zi qf hb;obtain⟨q0,q1,q2,q3,q4,q5,q6⟩:=HBX.out.keep zp.out HZ.out;obtain⟨r0,r1⟩:=HR.out _ zp.out;clear hb))
    go_wp2_with fail
    go_roundw;case rel=>exact⟨k+1,by omega,by go_num,E2,zp⟩
    case measure=>simp[intOf];omega
  ·have E2:=zH (show b=true from E.out.trans (JQ HN.out (by omega)));go_wp2_with fail
   go_ret;exact⟨by rw[E2.out];rfl,HW.out.trans (HX.out.mono (Xg HZ.out))⟩
theorem rsub_4(sup:List Int)(n k' n':Int)(A:Option Addr)(cap:Nat)(w:World):
  Calls Tryz.prog 91 #[.slice A sup.length cap,zF 4 n,zF k' n'] w fun e w'=>e= .returned (.bool (kS k'))/\Below w.heap.size w w':=by
 go_enter Tryz.func91,Tryz.ntmps91;go_wp2_with(go_at_call 97;(with_reducible refine(RD _ _ _).mono ?_);rintro e w' ⟨rfl,hb⟩)
 go_ret;exact⟨rfl,((zk).alloc (by simp) _).trans (hb.mono (by simp;omega))⟩
theorem qjb(sup:List Int)(n k' n':Int)(hk:¬k'=3)(A:Option Addr)(cap:Nat)(w:World):
  Calls Tryz.prog 91 #[.slice A sup.length cap,zF 3 n,zF k' n'] w fun e w'=>e= .returned (.bool false)/\Below w.heap.size w w':=by
 have hd:decide (k'=3)=false:=Xf hk;go_enter Tryz.func91,Tryz.ntmps91;go_wp2_with fail
 go_quiet (fail)
 go_wp2
 go_ret;exact⟨rfl,((zk).alloc (by simp) _)|>fun h=>jf h _⟩
theorem qjc(sup:List Int)(n n':Int)(A:Option Addr)(cap B:Nat)(w:World)(hl:sup.length<=1048576)(hB:B<=w.heap.size)(h:jh w B A sup):
  Calls Tryz.prog 91 #[.slice A sup.length cap,zF 3 n,zF 3 n'] w fun e w'=>e= .returned (.bool (qb (zz sup n) n'))/\Below w.heap.size w w':=by
 go_enter Tryz.func91,Tryz.ntmps91;go_wp2_with fail
 have hS:jh ((w.alloc (.cells #[.int .i64 3,.int .i64 n] 45)).alloc (.cells #[.int .i64 3,.int .i64 n'] 45)).drew B A sup:=
  h.below_to ((zk (w:=w)).alloc (by simp) _).drew hB
 have HS:=zH hS;have HB:=zH ((zk (w:=w) (o:=(.cells #[.int .i64 3,.int .i64 n] 45))).alloc (by simp) (.cells #[.int .i64 3,.int .i64 n'] 45));clear hS h;have Ou:(zz sup n).length<=9223372036854775807:=by
  unfold zz;split
  ·rcases Xl n.toNat sup.length with g|g
   ·have:=Re sup n.toNat;omega
   ·rw[yL g];simp
  ·simp
 have hz:w.heap.size<w.heap.size+1+1:=by omega
 go_region_held3 (fun w'=>w'.cell? ⟨w.heap.size,0,none⟩=some (.int .i64 3)/\w'.cell? ⟨w.heap.size,1,none⟩=some (.int .i64 n)/\w'.cell? ⟨w.heap.size+1,0,none⟩=some (.int .i64 3)/\w'.cell? ⟨w.heap.size+1,1,none⟩=some (.int .i64 n'))
  (first|go_keep)
  (first
   |(go_at_call 65;(with_reducible refine(DI sup n A cap B _ hl (by simp;omega) HS.out).mono ?_);rintro e w' ⟨v,rfl,ho,hb⟩;obtain⟨A',c',rfl,hlies⟩:=Ac ho;obtain⟨hc,hf⟩:=Yo hb;have HL:=zH hlies;clear hlies)
   |(go_at_call 43;(with_reducible refine(gY _ _ _ _ _ _ Ou HL.out).mono ?_);rintro e w' ⟨rfl,rfl⟩))
 go_wp2
 go_ret;exact⟨rfl,HB.out.drew.trans (hb.mono (by simp;omega))⟩
theorem qjd(sup:List Int)(k n k' n':Int)(hk:k=1\/k=2)(A:Option Addr)(cap:Nat)(w:World):
  Calls Tryz.prog 91 #[.slice A sup.length cap,zF k n,zF k' n'] w fun e w'=>e= .returned (.bool (decide (k=k'/\n=n')))/\Below w.heap.size w w':=by
 rcases hk with rfl|rfl;all_goals
  go_enter Tryz.func91,Tryz.ntmps91;go_wp2_with fail
  all_goals
   go_ret;refine⟨?_,(zk).alloc (by simp) _⟩;simp[*]
theorem rsub_0(sup:List Int)(k n k' n':Int)(hk:¬(k=1\/k=2\/k=3\/k=4))(A:Option Addr)(cap:Nat)(w:World):
  Calls Tryz.prog 91 #[.slice A sup.length cap,zF k n,zF k' n'] w fun e w'=>e= .returned (.bool false)/\Below w.heap.size w w':=by
 have h1:¬k=1:=by omega
 have h2:¬k=2:=by omega
 have h3:¬k=3:=by omega
 have h4:¬k=4:=by omega
 have e1:decide (k=1)=false:=Xf h1;have e2:decide (k=2)=false:=Xf h2;clear hk;go_enter Tryz.func91,Tryz.ntmps91;go_wp2_with fail
 go_ret;exact⟨rfl,(zk).alloc (by simp) _⟩
theorem gT(sup:List Int)(k n k' n':Int)(A:Option Addr)(cap B:Nat)(w:World)(hl:sup.length<=1048576)(hB:B<=w.heap.size)(h:jh w B A sup):
  Calls Tryz.prog 91 #[.slice A sup.length cap,zF k n,zF k' n'] w fun e w'=>e= .returned (.bool (zB sup k n k' n'))/\Below w.heap.size w w':=by
 by_cases h4:k=4
 ·subst h4;exact rsub_4 sup n k' n' A cap w
 ·by_cases h3:k=3
  ·subst h3;by_cases hk:k'=3
   ·subst hk;exact qjc sup n n' A cap B w hl hB h
   ·have e:zB sup 3 n k' n'=false:=by simp[zB,hk]
    rw[e];exact qjb sup n k' n' hk A cap w
  ·by_cases h12:k=1\/k=2
   ·have e:zB sup k n k' n'=decide (k=k'/\n=n'):=by simp[zB,h3,h4,h12]
    rw[e];exact qjd sup k n k' n' h12 A cap w
   ·have e:zB sup k n k' n'=false:=by simp[zB,h3,h4,h12]
    rw[e];exact rsub_0 sup k n k' n' (by omega) A cap w
def qF(n least most:Int):Bool:=decide (least<=n/\n<=most)
def qG(t:Int×Int):Bool:=decide (0<=t.1/\t.1<=5/\(t.2=0\/t.1=3/\0<=t.2/\t.2<=7))
def JR(l:List (Int×Int))(n:Int):Bool:=decide ((l.length:Int)<=n/\∀t ∈l,qG t=true)
def Ju(l:List Int)(n most:Int):Bool:=decide ((l.length:Int)<=n/\∀x ∈l,0<=x/\x<=most)
theorem q4p(n least most:Int)(w:World):Calls Tryz.prog 18 #[.int .i64 n,.int .i64 least,.int .i64 most] w fun e w'=>e= .returned (.bool (qF n least most))/\w=w':=by
 by_cases h:least<=n
 ·by_cases g:n<=most
  ·have E:=zH (show qF n least most=true from Xi ⟨h,g⟩);go_enter Tryz.func18,Tryz.ntmps18;go_wp2
   go_ret;exact⟨by rw[E.out];first|rfl|simp[g],rfl⟩
  ·have E:=zH (show qF n least most=false from Xf (fun x=>g x.2));go_enter Tryz.func18,Tryz.ntmps18;go_wp2
   go_ret;exact⟨by rw[E.out];first|rfl|simp[g],rfl⟩
 ·have E:=zH (show qF n least most=false from Xf (fun x=>h x.1));go_enter Tryz.func18,Tryz.ntmps18;go_wp2
  go_ret;exact⟨by rw[E.out];first|rfl|simp[h],rfl⟩
theorem Jd{n least most:Int}{r:Bool}{w:World}(H:Hid (qF n least most=r)):Calls Tryz.prog 18 #[.int .i64 n,.int .i64 least,.int .i64 most] w fun e w'=>e= .returned (.bool r)/\w=w':=by
 have h:=q4p n least most w;rw[H.out]at h;exact h
theorem K4(t:Int×Int)(w:World):Calls Tryz.prog 19 #[zF t.1 t.2] w fun e w'=>e= .returned (.bool (qG t))/\Below w.heap.size w w':=by
 obtain⟨k,n⟩:=t;dsimp only;have HW:=zH (zk (w:=w) (o:=(.cells #[.int .i64 k,.int .i64 n] 45)));obtain⟨r,hr⟩:=zj (qF k 0 5);obtain⟨q,hq⟩:=zj (qF n 0 7);have R:=zH hr;have Q:=zH hq;have E:Hid (qG (k,n)=(r&& (decide (n=0)||(decide (k=3)&& q)))):=zH (by
  rw[<-hr,<-hq];unfold qG qF;rw[XQ];simp;omega)
 clear hr hq;generalize qG (k,n)=b at E⊢
 cases r
 ·go_enter Tryz.func19,Tryz.ntmps19;go_wp2_with(go_at_call 18;(with_reducible refine(Jd R).mono ?_);rintro e w' ⟨rfl,rfl⟩)
  go_ret;exact⟨by rw[E.out];rfl,HW.out⟩
 ·by_cases h0:n=0
  ·subst h0;go_enter Tryz.func19,Tryz.ntmps19;go_wp2_with(go_at_call 18;(with_reducible refine(Jd R).mono ?_);rintro e w' ⟨rfl,rfl⟩)
   go_ret;exact⟨by rw[E.out];rfl,HW.out⟩
  ·by_cases h3:k=3
   ·subst h3;cases q;all_goals
     go_enter Tryz.func19,Tryz.ntmps19;go_wp2_with(first|(go_at_call 18;(with_reducible refine(Jd R).mono ?_);rintro e w' ⟨rfl,rfl⟩)|(go_at_call 18;(with_reducible refine(Jd Q).mono ?_);rintro e w' ⟨rfl,rfl⟩))
     go_ret;exact⟨by rw[E.out];simp[h0],HW.out⟩
   ·go_enter Tryz.func19,Tryz.ntmps19;go_wp2_with(go_at_call 18;(with_reducible refine(Jd R).mono ?_);rintro e w' ⟨rfl,rfl⟩)
    go_ret;exact⟨by rw[E.out];simp[h0,h3],HW.out⟩
theorem q6i(l:List (Int×Int))(n:Int)(A:Option Addr)(cap B:Nat)(w:World)(hB:B<=w.heap.size)(h:zd zf 2 w B A cap l):
  Calls Tryz.prog 16 #[.slice A l.length cap,.int .i64 n] w fun e w'=>e= .returned (.bool (JR l n))/\Below w.heap.size w w':=by
 have hlc:=h.le;have hcm:=h.cap;have HL:=zH h;have HB:=zH hB;clear h hB;by_cases hn:n<l.length
 ·have E:=zH (show JR l n=false from Xf (fun x=>by omega));go_enter Tryz.func16,Tryz.ntmps16;go_wp2
  go_ret;exact⟨by rw[E.out];rfl,zb _ _⟩
 ·obtain⟨b,hb⟩:=zj (JR l n);rw[hb];have E:Hid (b=decide (∀t ∈l,qG t=true)):=zH (by rw[<-hb];unfold JR;rw[Wj];exact⟨fun x=>x.2,fun x=>⟨by omega,x⟩⟩);clear hb;go_enter Tryz.func16,Tryz.ntmps16;go_wp2
  go_loopw [5] (fun i wr=>∃k:Nat,k<=l.length/\i= .int .i64 k/\Hid (∀t ∈l.take k,qG t=true)/\Hid (Below w.heap.size w wr)) (fun i _=>l.length - (intOf i).toNat)
  case atStart=>exact⟨0,by omega,rfl,zH (by simp),zH (zb _ _)⟩
  case round=>
   obtain⟨k,hk,rfl,HN,HX⟩:=hrel;by_cases hlt:k<l.length
   ·obtain⟨ad,rfl,hab,q0,q1⟩:=(HL.out.below_to zf.keeps HX.out HB.out).row.at_ hlt;have T1:=zH (show l.take (k+1)=l.take k++[l[k]]by rw[Xx,Xc hlt];rfl);have M1:=zH (Xd hlt);generalize l[k]=t at*
    obtain⟨r,hr⟩:=zj (qG t);have R:=zH hr;clear hr;cases r
    ·have E2:=zH (show b=false by rw[E.out];exact Xf (fun x=>by have:=x t M1.out;rw[R.out]at this;cases this));go_wp2_with(go_at_call 19;(with_reducible refine(K4 t _).mono ?_);rintro e w1 ⟨he,hb⟩;rw[R.out]at he;subst he;have Zq:=zH (HX.out.trans (hb.mono HX.out.size)))
     go_ret;exact⟨by rw[E2.out];rfl,Zq.out⟩
    ·go_wp2_with(go_at_call 19;(with_reducible refine(K4 t _).mono ?_);rintro e w1 ⟨he,hb⟩;rw[R.out]at he;subst he;have Zq:=zH (HX.out.trans (hb.mono HX.out.size));clear hb)
     go_roundw;case rel=>exact⟨k+1,by omega,by go_num,zH (by rw[T1.out];intro s hs;rcases Xu.mp hs with g|g;exact HN.out s g;simp at g;subst g;exact R.out),Zq⟩
     case measure=>simp[intOf];omega
   ·have E2:=zH (show b=true by rw[E.out];exact Xi (by have:=HN.out;rwa [XA (by omega)]at this));go_wp2_with fail
    go_ret;exact⟨by rw[E2.out];rfl,HX.out⟩
theorem qbt(l:List Int)(n most:Int)(A:Option Addr)(cap B:Nat)(w:World)(hB:B<=w.heap.size)(h:zd zu 1 w B A cap l):
  Calls Tryz.prog 17 #[.slice A l.length cap,.int .i64 n,.int .i64 most] w fun e w'=>e= .returned (.bool (Ju l n most))/\w=w':=by
 have hlc:=h.le;have hcm:=h.cap;have HL:=zH h;clear h;by_cases hn:n<l.length
 ·have E:=zH (show Ju l n most=false from Xf (fun x=>by omega));go_enter Tryz.func17,Tryz.ntmps17;go_wp2
  go_ret;exact⟨by rw[E.out];rfl,rfl⟩
 ·obtain⟨b,hb⟩:=zj (Ju l n most);rw[hb];have E:Hid (b=decide (∀t ∈l,0<=t/\t<=most)):=zH (by rw[<-hb];unfold Ju;rw[Wj];exact⟨fun x=>x.2,fun x=>⟨by omega,x⟩⟩);clear hb;go_enter Tryz.func17,Tryz.ntmps17;go_wp2
  go_loop [7] (fun i=>∃k:Nat,k<=l.length/\i= .int .i64 k/\Hid (∀t ∈l.take k,0<=t/\t<=most)) (fun i=>l.length - (intOf i).toNat)
  case atStart=>exact⟨0,by omega,rfl,zH (by simp)⟩
  case round=>
   obtain⟨k,hk,rfl,HN⟩:=hrel;by_cases hlt:k<l.length
   ·obtain⟨ad,rfl,hab,q0⟩:=HL.out.row.at_ hlt;rw[Xq]at q0;have T1:=zH (show l.take (k+1)=l.take k++[l[k]]by rw[Xx,Xc hlt];rfl);have M1:=zH (Xd hlt);generalize l[k]=t at*
    have ug:w.cell? (ad.add k)=some (.int .i64 t):=q0;obtain⟨r,hr⟩:=zj (qF t 0 most);have R:=zH hr;clear hr;cases r
    ·have E2:=zH (show b=false by rw[E.out];exact Xf (fun x=>by have:=Wi R.out;exact this (x t M1.out)));go_wp2_with(go_at_call 18;(with_reducible refine(Jd R).mono ?_);rintro e w1 ⟨rfl,rfl⟩)
     go_ret;exact⟨by rw[E2.out];rfl,rfl⟩
    ·go_wp2_with(go_at_call 18;(with_reducible refine(Jd R).mono ?_);rintro e w1 ⟨rfl,rfl⟩)
     go_round
     case rel=>exact⟨k+1,by omega,by go_num,zH (by rw[T1.out];intro s hs;rcases Xu.mp hs with g|g;exact HN.out s g;simp at g;subst g;exact XD R.out)⟩
     case measure=>simp[intOf];omega
   ·have E2:=zH (show b=true by rw[E.out];exact Xi (by have:=HN.out;rwa [XA (by omega)]at this));go_wp2_with fail
    go_ret;exact⟨by rw[E2.out];rfl,rfl⟩
def vB(x:zl)(n:Int):Int×Int:=if 0<=n then(x.args++x.locals)[n.toNat]?.getD (0,0)else(0,0)
def kP(cl:List zW)(c n:Int):Option Int:=if 0<=c/\0<=n then cl[c.toNat]?.bind fun x=>x.slots[n.toNat]? else none
theorem IX{cl:List zW}{i j:Nat}(hi:i<cl.length)(hj:j<cl[i].slots.length):kP cl i j=some cl[i].slots[j]:=by
 unfold kP;rw[Xb ⟨by omega,by omega⟩,Xo,Xc hi,Xo];simp[Xc hj]
theorem Pm{cl:List zW}{c n:Int}(h:c<0\/(cl.length:Int)<=c):kP cl c n=none:=by
 unfold kP;split
 ·rename_i g;rw[XE (by omega)];rfl
 ·rfl
theorem PQ{cl:List zW}{i:Nat}{n:Int}(hi:i<cl.length)(h:n<0\/(cl[i].slots.length:Int)<=n):kP cl i n=none:=by
 unfold kP;split
 ·rename_i g;rw[Xo,Xc hi];exact XE (by omega)
 ·rfl
def EU(o:Option Int)(w:World)(e:Ending)(w':World):Prop:=e= .returned (.tuple #[.int .i64 (o.getD 0),.bool o.isSome])/\Below w.heap.size w w'
def vb(x:zl):List (Int×Int):=if x.ret.1=5 then []else [x.ret]
def zA(m:za)(a:Int):zl:=m.methods[a.toNat]?.getD ⟨[],[],(0,0),[],0,0,[]⟩
def bZ(m:za)(a b:Int):Int×Int:=(qg m.classes a)[b.toNat]?.getD (0,0)
def gX(m:za)(a:Int):Int×Int:=m.statics[a.toNat]?.getD (0,0)
def Yz(m:za)(a b:Int):Int:=(kP m.classes a b).getD 0
def jq(m:za)(x:zl)(op a b:Int):List (Int×Int):=
 if op=4 then [vB x a]else if op=5 then [(0,0)]else if op=19 then [(1,0)]else if op=20 then [(4,0)]else if op=21 then [(4,0),(4,0)]else
 if op=23 then [(1,0)]else if op=24 then [(2,0),(1,0)]else if op=25 then [(2,0),(1,0),(1,0)]else if op=26 then [(2,0)]else if op=27 then [(3,a)]else
 if op=28 then [(3,a),bZ m a b]else if op=30 then [gX m a]else if op=34 then [(4,0)]else if op=33 then vb x else
 if op=31 then(zA m a).args else if op=32 then(3,a)::(zA m (Yz m a b)).args.drop 1 else
 if 7<=op/\op<=17 then [(1,0),(1,0)]else []
def jg(m:za)(x:zl)(op a b:Int):List (Int×Int):=
 if op=1 then [(1,0)]else if op=2 then [(4,0)]else if op=3 then [vB x a]else if op=20 then [(1,0)]else if op=21 then [(1,0)]else if op=22 then [(3,a)]else
 if op=23 then [(2,0)]else if op=24 then [(1,0)]else if op=26 then [(1,0)]else if op=27 then [bZ m a b]else if op=29 then [gX m a]else
 if op=34 then [(3,a)]else if op=31 then vb (zA m a)else if op=32 then vb (zA m (Yz m a b))else
 if 7<=op/\op<=17 then [(1,0)]else []
def vM(sup:List Int)(op:Int)(Ho want:Int×Int):Bool:=
 if want.1=0 then true else if want.1=4 then kS Ho.1&& !(decide (op=34)&& decide (Ho.1=2))else zB sup Ho.1 Ho.2 want.1 want.2
def jt(pc op a:Int):List Int:=if op=18 then [a]else if op=19 then [pc+1,a]else if op=33 then []else [pc+1]
structure df where
 after:List (Int×Int)
 next:List Int
 err:Int
deriving DecidableEq
def qS(e:Int):df:=⟨[],[],e⟩
def takes(m:za)(x:zl)(op a b:Int)(st:List (Int×Int)):List (Int×Int):=if op=6/\st≠ []then [(0,0)]else jq m x op a b
def Jv(m:za)(x:zl)(op a b:Int)(st:List (Int×Int)):List (Int×Int):=if op=6/\st≠ []then [st.getLast?.getD (0,0),st.getLast?.getD (0,0)]else jg m x op a b
def qT(m:za)(x:zl)(pc op a b:Int)(st:List (Int×Int)):df:=
 if(jt pc op a).head?.any (fun n=>decide ((x.code.length:Int)<=n))=true then qS 4 else
 if(op=6/\st=[])\/st.length<(takes m x op a b st).length\/8<st.length - (takes m x op a b st).length+(Jv m x op a b st).length then qS 4 else
 if((st.drop (st.length - (takes m x op a b st).length)).zip (takes m x op a b st)).all (fun p=>vM (zy m.classes) op p.1 p.2)=true then
  ⟨st.take (st.length - (takes m x op a b st).length)++Jv m x op a b st,jt pc op a,0⟩else qS 4
def zI(m:za)(f pc:Int)(st:List (Int×Int)):df:=
 if 0<=f/\f<m.methods.length/\0<=pc/\pc<(zA m f).code.length then
  match(zA m f).code[pc.toNat]? with
  |some i=>qT m (zA m f) pc i.1 i.2.1 i.2.2 st
  |none=>qS 1
 else qS 1
theorem yR{sup:List Int}{a:Int}{s:Int}(h0:0<=a)(h:sup[a.toNat]? =some s):zz sup a=a::(if s<a then zz sup s else []):=by
 have e:=Dp h;have ea:(a.toNat:Int)=a:=by omega
 rw[ea]at e;rw[<-e];unfold zz
 grind
theorem lV{sup:List Int}{a:Int}(h:a<0\/(sup.length:Int)<=a):zz sup a=[]:=by
 unfold zz
 grind [yL]
theorem Ew{sup:List Int}{a:Int}(h0:0<=a)(h1:a<sup.length):∃s,sup[a.toNat]? =some s:=
 (by simp_all)
theorem yX{sup:List Int}{a:Int}(h0:0<=a)(h1:a<sup.length):a ∈zz sup a:=by
 obtain⟨s,hs⟩:=Ew h0 h1;rw[yR h0 hs]
 grind
theorem Er(sup:List Int)(n:Nat):∀a:Int,a<n->(∀b ∈zz sup a,0<=b/\b<=a/\a<sup.length)/\(∀b ∈zz sup a,∀c ∈zz sup b,c ∈zz sup a)/\
  (∀b ∈zz sup a,∀c ∈zz sup a,c<=b->c ∈zz sup b)/\(zz sup a).Pairwise (· > ·):=by
 induction n with
 |zero=>
  intro a ha;rw[lV (.inl (by omega))];simp
 |succ n ih=>
  intro a ha;by_cases hv:0<=a/\a<sup.length
  ·obtain⟨h0,h1⟩:=hv;obtain⟨s,hs⟩:=Ew h0 h1;have e:=yR h0 hs;by_cases hsa:s<a
   ·rw[Xb hsa]at e;obtain⟨i1,i2,i3,i4⟩:=ih s (by omega);refine⟨?_,?_,?_,?_⟩
    ·intro b hb;rw[e]at hb;rcases XZ.mp hb with rfl|hb
     ·omega
     grind
    ·grind
    ·intro b hb c hc hcb;have hb':=hb;rw[e]at hb' hc;rcases XZ.mp hb' with rfl|hb2
     ·grind
     grind
    grind [List.pairwise_cons]
   simp_all
  ·rw[lV (by omega)];simp
theorem Jb{sup:List Int}{a b:Int}(h:b ∈zz sup a):0<=b/\b<=a/\a<sup.length:=(Er sup (a.toNat+1) a (by omega)).1 b h
theorem q5p{sup:List Int}{a b c:Int}(h:b ∈zz sup a)(g:c ∈zz sup b):c ∈zz sup a:=(Er sup (a.toNat+1) a (by omega)).2.1 b h c g
theorem qa8{sup:List Int}{a b c:Int}(h:b ∈zz sup a)(g:c ∈zz sup a)(l:c<=b):c ∈zz sup b:=(Er sup (a.toNat+1) a (by omega)).2.2.1 b h c g l
theorem qa9(sup:List Int)(a:Int):(zz sup a).Pairwise (· > ·):=(Er sup (a.toNat+1) a (by omega)).2.2.2
theorem qaa{sup:List Int}{a b:Int}(h:b ∈zz sup a)(g:a ∈zz sup b):a=b:=by
 have:=Jb h;have:=Jb g;omega
theorem eQ{l:List Int}{n:Int}:qb l n=true↔n ∈l:=by unfold qb;simp
theorem JN(sup:List Int)(k n k' n':Int):zB sup k n k' n'=true↔(k=4/\(k'=2\/k'=3\/k'=4))\/(k=3/\k'=3/\n' ∈zz sup n)\/((k=1\/k=2)/\k=k'/\n=n'):=by
 unfold zB;by_cases h4:k=4
 ·subst h4;simp[kS]
 ·by_cases h3:k=3
  ·subst h3;simp[qb]
  grind
def jF(sup:List Int)(c:Int):Nat->List Int
 |0=> []
 |k+1=>if qb (zz sup k) c then jF sup c k++[(k:Int)]else jF sup c k
def YS(cl:List zW)(c:Int):List Int:=jF (zy cl) c cl.length
theorem uN(sup:List Int)(c:Int):∀k,(jF sup c k).length<=k
 |0=>zn _
 |k+1=>by
  unfold jF;have:=uN sup c k;split
  ·simp;omega
  ·omega
theorem yQ(sup:List Int)(c:Int):∀(k:Nat) (x:Int),x ∈jF sup c k↔0<=x/\x<k/\qb (zz sup x) c=true
 |0,x=>by simp[jF];omega
 |k+1,x=>by
  unfold jF;have ih:=yQ sup c k x;split
  ·rename_i g;rw[Xu,ih,XR];constructor
   ·rintro(⟨a,b,d⟩|rfl)
    ·exact⟨a,by omega,d⟩
    ·exact⟨by omega,by omega,g⟩
   ·rintro⟨a,b,d⟩;by_cases e:x=k
    ·exact .inr e
    ·exact .inl ⟨a,by omega,d⟩
  ·rename_i g;rw[ih];constructor
   ·rintro⟨a,b,d⟩;exact⟨a,by omega,d⟩
   ·rintro⟨a,b,d⟩;refine⟨a,?_,d⟩;by_cases e:x=k
    ·subst e;exact absurd d g
    ·omega
theorem Ir(sup:List Int)(c:Int):∀k,(jF sup c k).Pairwise (· < ·)
 |0=>List.Pairwise.nil
 |k+1=>by
  unfold jF;split
  ·rw[List.pairwise_append];refine⟨Ir sup c k,by simp,fun a ha b hb=> ?_⟩;rw[XR]at hb;subst hb;exact((yQ sup c k a).mp ha).2.1
  ·exact Ir sup c k
theorem q4c{sup:List Int}{c:Nat}(h:c<sup.length):jF sup c (c+1)=[(c:Int)]:=by
 have e:jF sup (c:Int) c=[]:=by
  apply List.eq_nil_iff_forall_not_mem.mpr;intro x hx;obtain⟨h0,h1,h2⟩:=(yQ sup c c x).mp hx;have:=Jb (eQ.mp h2);omega
 unfold jF;rw[Xb (eQ.mpr (yX (by omega) (by omega))),e];rfl
theorem q9x{sup:List Int}{c:Int}(h:c<0\/(sup.length:Int)<=c)(k:Nat)(hk:k<=sup.length):jF sup c k=[]:=by
 apply List.eq_nil_iff_forall_not_mem.mpr;intro x hx;obtain⟨h0,h1,h2⟩:=(yQ sup c k x).mp hx;have:=Jb (eQ.mp h2);omega
theorem AV(w:World)(z:Int){N:Nat}{T:TypeId}(hN:w.heap.size=N:=by rfl):∀j u,[Value.int .i64 z][j]? =some u->(w.alloc (.cells #[.int .i64 z] T)).cell? ((⟨N,0,none⟩:Addr).add j)=some u:=by
 subst hN;intro j u hj
 match j,hj with
 |0,hj=>simp at hj;subst hj;simp[Addr.add]
theorem AC(z:Int):∀u ∈ [Value.int .i64 z],u.oneCell'=true:=by intro u hu;simp at hu;subst hu;rfl
theorem II{P:Prop}(h:P:=by
 go_enter Tryz.func67,Tryz.ntmps67;go_upto_region 1 with fail
 generalize w.alloc (ze h m)=w1 at*
 obtain⟨q0,q1,q2,q3,q4,q5,q6⟩:=HBX.out;rw[HE.out]at q0;go_wp2_with fail
 go_ret2
 exact⟨rfl,HW.out⟩):P:=h
theorem qbk(m:za)(c n:Int)(h:zh)(w:World)(H:zr w w.heap.size h m):
  Calls Tryz.prog 67 #[zv h m,.int .i64 c,.int .i64 n] w (EU (kP m.classes c n) w):=by
 have HW:=zH (zk (w:=w) (o:=(ze h m)));have zO:=zH (H.now HW.out);have HBX:=zH (qd w h m);have hle:=H.classes.le;have hcap:=H.classes.cap;have hn63:m.classes.length<=9223372036854775807:=by omega
 clear H hle hcap;by_cases hc:0<=c/\c<m.classes.length
 ·obtain⟨c0,c1⟩:=hc;obtain⟨i,rfl⟩:=Xj c0;have hi:i<m.classes.length:=by omega
  clear c0 c1;obtain⟨ad,e0,hab,s0,⟨A1,k1,s1,hs1⟩,⟨A2,k2,s2,hs2⟩,_⟩:=zO.out.classes.row.at_ hi;have HE:=zH e0;clear e0;have l1:=hs2.le;have l2:=hs2.cap;have MC:m.classes[i].slots.length<=9223372036854775807:=by omega
  have jD:=zH hs2;clear hs1 hs2 l1 l2;by_cases hnn:0<=n/\n<m.classes[i].slots.length
  ·obtain⟨n0,n1⟩:=hnn;obtain⟨j,rfl⟩:=Xj n0;have hj:j<m.classes[i].slots.length:=by omega
   clear n0 n1;rw[IX hi hj];obtain⟨Ye,rfl,yn,z0⟩:=jD.out.row.at_ hj;clear jD;rw[Xq]at z0;generalize m.classes[i].slots[j]=f at*
   generalize m.classes[i]=x at*
   have z0':(w.alloc (ze h m)).cell? (Ye.add j)=some (.int .i64 f):=z0;clear z0;exact II
  ·rw[PQ hi (by omega)];have hno:n<0\/(m.classes[i].slots.length:Int)<=n:=by omega
   clear hnn jD;generalize m.classes[i]=x at*
   rcases hno with hno|hno
   ·exact II
   ·have hn0:0<=n:=by omega
    exact II
 ·have hno:c<0\/(m.classes.length:Int)<=c:=by omega
  rw[Pm hno];clear hc;rcases hno with hno|hno
  ·go_enter Tryz.func67,Tryz.ntmps67;go_upto_region 1 with fail
   generalize w.alloc (ze h m)=w1 at*
   obtain⟨q0,q1,q2,q3,q4,q5,q6⟩:=HBX.out;go_wp2_with fail
   go_ret2
   exact⟨rfl,HW.out⟩
  ·have hn0:0<=c:=by omega
   go_enter Tryz.func67,Tryz.ntmps67;go_upto_region 1 with fail
   generalize w.alloc (ze h m)=w1 at*
   obtain⟨q0,q1,q2,q3,q4,q5,q6⟩:=HBX.out;go_wp2_with fail
   go_ret2
   exact⟨rfl,HW.out⟩
theorem K5{m:za}{h:zh}{w0 w:World}{c n:Int}{o:Option Int}(HI:Hid (zr w0 w0.heap.size h m))(HX:Hid (Below w0.heap.size w0 w))(HO:Hid (kP m.classes c n=o)):
  Calls Tryz.prog 67 #[zv h m,.int .i64 c,.int .i64 n] w (EU o w):=by
 have H:=qbk m c n h w (HI.out.now HX.out);rw[HO.out]at H;exact H
structure rX(w:World)(p:Addr)(hx:qH)(x:zl):Prop where
 c0:w.cell? p=some (.slice hx.A0 x.args.length hx.k0)
 c1:w.cell? (zc p 1)=some (.slice hx.A1 x.locals.length hx.k1)
 c2:w.cell? (zc p 2)=some (.int .i64 x.ret.1)
 c3:w.cell? (zc p 3)=some (.int .i64 x.ret.2)
 c4:w.cell? (zc p 4)=some (.slice hx.A4 x.code.length hx.k4)
 c5:w.cell? (zc p 5)=some (.int .i64 x.depth)
 c6:w.cell? (zc p 6)=some (.int .i64 x.pot)
 c7:w.cell? (zc p 7)=some (.slice hx.A7 x.phi.length hx.k7)
theorem rX.keep{w w':World}{p:Addr}{hx:qH}{x:zl}{B:Nat}(h:rX w p hx x)(hb:Below B w w')(hp:p.block<B):rX w' p hx x:=
 ⟨(hb.cell hp).trans h.c0,(hb.cell (p:=zc p 1) hp).trans h.c1,(hb.cell (p:=zc p 2) hp).trans h.c2,(hb.cell (p:=zc p 3) hp).trans h.c3,(hb.cell (p:=zc p 4) hp).trans h.c4,
  (hb.cell (p:=zc p 5) hp).trans h.c5,(hb.cell (p:=zc p 6) hp).trans h.c6,(hb.cell (p:=zc p 7) hp).trans h.c7⟩
theorem V3{w:World}{B:Nat}{p:Addr}{x:zl}(h:kd w B p x):∃hx,jR w B hx x/\rX w p hx x:=by
 obtain⟨⟨A0,k0,s0,hs0⟩,⟨A1,k1,s1,hs1⟩,s2,s3,⟨A4,k4,s4,hs4⟩,s5,s6,⟨A7,k7,s7,hs7⟩⟩:=h;exact⟨⟨A0,A1,A4,A7,k0,k1,k4,k7⟩,⟨hs0,hs1,hs4,hs7⟩,⟨s0,s1,s2,s3,s4,s5,s6,s7⟩⟩
theorem Zx{w:World}{B:Nat}{h:zh}{m:za}(H:zr w B h m){k:Nat}(hk:k<m.methods.length):∃ad hx,h.A3=some ad/\ad.block<B/\jR w B hx m.methods[k]/\rX w (ad.add (k*8)) hx m.methods[k]:=by
 obtain⟨ad,e,hb,hm⟩:=H.methods.row.at_ hk;obtain⟨hx,h1,h2⟩:=V3 hm;exact⟨ad,hx,e,hb,h1,h2⟩
set_option maxHeartbeats 1600000 in
theorem q71(m:za)(c:Int)(h:zh)(w:World)(H:zr w w.heap.size h m)(hn:m.classes.length<=1000):
  Calls Tryz.prog 66 #[zv h m,.int .i64 c] w (ZR (YS m.classes c) w):=by
 obtain⟨i0,hi,hz0,hz1,hz2⟩:=info_parts ZL;have HW:=zH (zk (w:=w) (o:=(ze h m)));have zO:=zH (H.now HW.out);have HBX:=zH (qd w h m);have HZ:Hid (w.heap.size<(w.alloc (ze h m)).heap.size):=zH (by simp);have HS:=zH (eB zO.out.classes.row);have hsl:(zy m.classes).length=m.classes.length:=kE _;have hle:=H.classes.le;have hcap:=H.classes.cap;have HE:=zH (show YS m.classes c=jF (zy m.classes) c m.classes.length from rfl);obtain⟨sup,oC⟩:=zj (zy m.classes);rw[oC]at hsl HS HE;have Zu:=zH hsl;clear hsl oC H;go_enter Tryz.func66,Tryz.ntmps66;go_upto_region 1 with fail
 generalize w.alloc (ze h m)=w1 at*
 go_wp2
 go_loopw [5,6] (fun v i wr=>∃k:Nat,k<=m.classes.length/\i= .int .i64 k/\Hid (wr.ownsRow w1.heap.size 3 1 v (jF sup c k).length ((jF sup c k).map (Value.int .i64)))/\Hid (Below w1.heap.size w1 wr)) (fun _ i _=>m.classes.length - (intOf i).toNat)
 case atStart=>exact⟨0,Xn _,rfl,zH (gM w1 _),zH (zk)⟩
 case round=>
  obtain⟨k,hk,rfl,HO,HX⟩:=hrel;obtain⟨q0,q1,q2,q3,q4,q5,q6⟩:=HBX.out.keep HX.out HZ.out;have hbl:=uN sup c k;by_cases hlt:k<m.classes.length
  ·obtain⟨b,hb⟩:=zj (qb (zz sup k) c);have HST:=zH (show jF sup c (k+1)=if b=true then jF sup c k++[(k:Int)]else jF sup c k by rw[<-hb];rfl);obtain⟨U,hU⟩:=zj (zz sup k);have iZ:U.length<=9223372036854775807:=by rw[<-hU];have:=pz sup k;have:=Zu.out;omega
   have HU:=zH hU;rw[hU]at hb;have HB:=zH hb;clear hU hb;have Gv:=zH ((HS.out.below_to HX.out (zn _)):jh wr w1.heap.size h.A0 sup);generalize jF sup c k=L at*
   have hsz:=HX.out.size;have HSw:Hid (jh wr wr.heap.size h.A0 sup):=zH (fun i s hs=>by obtain⟨ad,e,a0,a1⟩:=Gv.out i s hs;exact⟨ad,e,Xp a0 hsz,a1⟩);have hn':m.classes.length<=1048576:=by omega
   cases b
   ·have e1:jF sup c (k+1)=L:=HST.out;have tV:=zH e1;clear e1 HST;go_wp2_with(first
     |(go_at_call 65;(with_reducible refine(Ku Zu hn' HU HSw).mono ?_);rintro e w2 ⟨v2,rfl,ho,hb⟩;have HX2:=zH (HX.out.trans (hb.mono hsz));have qm:=kpO HO hb;obtain⟨A2,c2,rfl,hl2,g1,g2⟩:=Ji ho;have HL2:=zH hl2;have hsz2:=HX2.out.size;clear hb ho hl2)
     |(go_at_call 43;(with_reducible refine(gY _ _ _ _ _ _ iZ HL2.out).mono ?_);rintro e w' ⟨he,rfl⟩;rw[HB.out]at he;subst he;obtain⟨q0,q1,q2,q3,q4,q5,q6⟩:=HBX.out.keep HX2.out HZ.out))
    go_roundw;case rel=>exact⟨k+1,by omega,by go_num,zH (by rw[tV.out];exact qm.out),HX2⟩
    case measure=>simp[intOf];omega
   ·have e1:jF sup c (k+1)=L++[(k:Int)]:=HST.out;have tV:=zH e1;clear e1 HST;go_wp2_with(first
     |(go_at_call 65;(with_reducible refine(Ku Zu hn' HU HSw).mono ?_);rintro e w2 ⟨v2,rfl,ho,hb⟩;have HX2:=zH (HX.out.trans (hb.mono hsz));have qm:=kpO HO hb;obtain⟨A2,c2,rfl,hl2,g1,g2⟩:=Ji ho;have HL2:=zH hl2;have hsz2:=HX2.out.size;clear hb ho hl2)
     |(go_at_call 43;(with_reducible refine(gY _ _ _ _ _ _ iZ HL2.out).mono ?_);rintro e w' ⟨he,rfl⟩;rw[HB.out]at he;subst he;obtain⟨q0,q1,q2,q3,q4,q5,q6⟩:=HBX.out.keep HX2.out HZ.out)
     |(at_builtin;refine wpList_append_own _ rfl _ _ 27 rfl w1.heap.size 3 i0 (.int .i64 0) 1 8 Tryz.underlying27 hi hz0 hz1 hz2 rfl (by decide) _ _ _ rfl (qm.out.alloc _) ⟨_,0,none⟩ 1 1 [.int .i64 (k:Int)] rfl rfl (AV _ _) (AC _) (by unfold maxLen;omega) (by omega) (by simp;omega) ?_;intro v' w3 hown' hgrow _;have hR:=o6 qm.out hsz2 HX2.out hown' hgrow;have qa:=zH hR.1;have zp:=zH hR.2;clear hown' hgrow hR))
    go_roundw;case rel=>exact⟨k+1,by omega,by go_num,zH (by rw[tV.out];exact qa.out),zp⟩
    case measure=>simp[intOf];omega
  ·obtain rfl:k=m.classes.length:=by omega
   go_wp2_with fail
   go_ret;refine⟨_,rfl,?_,zD HW HX⟩;rw[HE.out];exact js HO.out HW.out.size
section
variable{m:za}{h:zh}{w0 w:World}{c:Int}
theorem qbz{L:List Int}(HI:Hid (zr w0 w0.heap.size h m))(HX:Hid (Below w0.heap.size w0 w))(HL:Hid (YS m.classes c=L))(hn:m.classes.length<=1000):
  Calls Tryz.prog 66 #[zv h m,.int .i64 c] w (ZR L w):=by
 have H:=q71 m c h w (HI.out.now HX.out) hn;rw[HL.out]at H;exact H
end
theorem Px{P:Prop}(h:P:=by
 go_wp2_with fail
 first
  |exact Xk (v:=zF 0 0) (by simp[results,Tryz.results128,go_sem,c0,c1]) rfl ⟨rfl,HW.out.trans (HB3.out.mono hW1)⟩
  |(have Vr:=(kf.out.set 0 (.int .i64 0)).set 1 (.int .i64 0)
    have d0:=Vr.cells 0 _ rfl;have d1:=Vr.cells 1 _ rfl;exact Xk (v:=zF 0 0) (by simp[results,Tryz.results128,go_sem,d0,d1]) rfl ⟨rfl,HW.out.trans (((HB3.out.mono hW1).setCell (p:=⟨w.heap.size+1,0,none⟩) (by show w.heap.size<=w.heap.size+1;omega) (.int .i64 0)).setCell (p:=⟨w.heap.size+1,1,none⟩) (by show w.heap.size<=w.heap.size+1;omega) (.int .i64 0))⟩)):P:=h
set_option maxHeartbeats 1600000 in
theorem q6s(x:zl)(n:Int)(hs:n<=9223372036854775807)(hx:qH)(w:World)(H:jR w w.heap.size hx x)(ha:x.args.length<=1048576)(hl:x.locals.length<=1048576):
  Calls Tryz.prog 128 #[ZD hx x,.int .i64 n] w fun e w'=>e= .returned (zF (vB x n).1 (vB x n).2)/\Below w.heap.size w w':=by
 obtain⟨i0,hi,hz0,hz1,hz2⟩:=jJ bM;have HW:=zH ((zk (w:=w) (o:=(.cells (qj hx x).toArray 48))).alloc (by simp) (.cells #[.int .i64 0,.int .i64 0] 45));have HQ:=zH (show zm ((w.alloc (.cells (qj hx x).toArray 48)).alloc (.cells #[.int .i64 0,.int .i64 0] 45)) (w.heap.size+1) [.int .i64 0,.int .i64 0] 45 from zm.at_ (by simp) _ _);have HC:=zH ((qr w (qj hx x) 48).keep (zk (o:=(.cells #[.int .i64 0,.int .i64 0] 45))) (by simp));have HM:=zH (H.now HW.out);obtain⟨t,ht⟩:=zj (vB x n);rw[ht];have HR:=zH ht;clear H ht;go_enter Tryz.func128,Tryz.ntmps128;go_upto_region 1 with fail
 generalize(w.alloc (.cells (qj hx x).toArray 48)).alloc (.cells #[.int .i64 0,.int .i64 0] 45)=w1 at*
 have q0:=HC.out 0 _ rfl;have q1:=HC.out 1 _ rfl;have hlt:=HQ.out.lt;have OO:Hid (∀W,Below w1.heap.size w1 W->W.cell? ⟨w.heap.size,0,none⟩=some (.slice hx.A0 x.args.length hx.k0)):=zH (fun W hW=>(hW.cell (p:=⟨w.heap.size,0,none⟩) (by show w.heap.size<_;omega)).trans q0);have Zn:Hid (∀W,Below w1.heap.size w1 W->W.cell? ⟨w.heap.size,1,none⟩=some (.slice hx.A1 x.locals.length hx.k1)):=zH (fun W hW=>(hW.cell (p:=⟨w.heap.size,1,none⟩) (by show w.heap.size<_;omega)).trans q1);have HA:=zH (YQ HM.out.args.row);have HL:=zH (YQ HM.out.locals.row);clear HC;go_wp2
 refine wp_region_noPanic ?_;refine wp_region_held_drew (S:=(fun w'=>w'.cell? ⟨w.heap.size,0,none⟩=some (.slice hx.A0 x.args.length hx.k0)/\w'.cell? ⟨w.heap.size,1,none⟩=some (.slice hx.A1 x.locals.length hx.k1))) (by kernel_rfl) ⟨q0,q1⟩ (fun hHeld=> ?_);refine mT 1 (h:=mT 2 (h:=mT 4 (h:=mT 5 (h:= ?_))));refine mR 0 (h:=fun K hK=> ?_);go_simp;have HB0:=zH ((zb w1.heap.size w1).drew.alloc (zn _) (.cells #[] 45));have nV:=zH (bJ w1.drew 45 2);have Ca:=zH ((HA.out.below_to HB0.out (zn _)):zw (w1.drew.alloc (.cells #[] 45)) w1.heap.size hx.A0 (zN x.args));refine mK hK ⟨OO.out _ HB0.out,Zn.out _ HB0.out⟩ (h:=fun hHeld=> ?_);clear hK K;refine mR 3 (h:=fun K hK=> ?_)
 (refine gL rfl _ _ 24 rfl w1.heap.size 45 i0 (.agg #[.int .i64 0,.int .i64 0]) 2 16 Tryz.underlying24 hi hz0 hz1 hz2 rfl (by decide) _ 0 [] rfl nV.out hx.A0 x.args.length hx.k0 _ (zN x.args) (Yt _) rfl Ca.out (QM _) (by unfold maxLen;omega) (by omega) HB0.out.size ?_;intro v2 w2 hown hgrow;have HB2:=zH (jx HB0.out nV.out HB0.out.size hgrow);have qm:=zH hown;have HL2:=zH ((HL.out.below_to HB2.out (zn _)):zw w2 w1.heap.size hx.A1 (zN x.locals));clear hown hgrow)
 refine mK hK ⟨OO.out _ HB2.out,Zn.out _ HB2.out⟩ (h:=fun hHeld=> ?_);clear hK K;refine mR 6 (h:=fun K hK=> ?_)
 (refine gL rfl _ _ 24 rfl w1.heap.size 45 i0 (.agg #[.int .i64 0,.int .i64 0]) 2 16 Tryz.underlying24 hi hz0 hz1 hz2 rfl (by decide) _ (0+x.args.length) ([]++zN x.args) rfl qm.out hx.A1 x.locals.length hx.k1 _ (zN x.locals) (Yt _) rfl HL2.out (QM _) (by unfold maxLen;omega) (by omega) HB2.out.size ?_;intro v3 w3 hown hgrow;have HB3:=zH (jx HB2.out qm.out HB2.out.size hgrow);have qa:=zH hown;clear hown hgrow)
 refine mK hK ⟨OO.out _ HB3.out,Zn.out _ HB3.out⟩ (h:=fun hHeld=> ?_);clear hK K;refine mT 7 (h:= ?_);refine wpAnyH_done (by kernel_rfl) ?_ _;refine NoPanic.normal ?_;have kf:=zH (HQ.out.keep HB3.out hlt);obtain⟨L,hL⟩:=zj (x.args++x.locals);have Qx:L.length<=2097152:=by rw[<-hL,Xh];omega
 have HE:=zH (show vB x n=if 0<=n then L[n.toNat]?.getD (0,0)else(0,0)by rw[<-hL];rfl);have hO:w3.ownsRow w1.heap.size 45 2 v3 L.length (zN L):=by
  have:=qa.out;rw[<-hL,Xh];unfold zN at this⊢
  rw[Wa];simpa using this
 obtain⟨A3,c3,rfl,hS,_⟩:=Yq hO;have HS:=zH hS;have hlt3:=kf.out.lt;have c0:=kf.out.cells 0 _ rfl;have c1:=kf.out.cells 1 _ rfl;have f0:=kf.out.free 0;have f1:=kf.out.free 1;clear hL hS hO qa qm HL2 Ca nV hHeld q0 q1;have hW3:=HB3.out.size;have hW1:=HW.out.size;by_cases h0:n<0
 ·obtain rfl:t=(0,0):=by rw[<-HR.out,HE.out,Xa (by omega)]
  clear HE HR;exact Px
 ·have h0':0<=n:=by omega
  by_cases h1:n<L.length
  ·obtain⟨j,rfl⟩:=Xj h0';have hj:j<L.length:=by omega
   obtain⟨ad,rfl,hab,r0,r1⟩:=HS.out.row.at_ hj;have HE2:=zH (show vB x (j:Int)=L[j]by rw[HE.out,Xb (by omega),Xo,Xc hj];rfl);have e:L[j]=t:=HE2.out.symm.trans HR.out;rw[e]at r0 r1;clear HE HE2 HR e;go_wp2_with fail
   have Vr:=(kf.out.set 0 (.int .i64 t.1)).set 1 (.int .i64 t.2);have d0:=Vr.cells 0 _ rfl;have d1:=Vr.cells 1 _ rfl;exact Xk (v:=zF t.1 t.2) (by simp[results,Tryz.results128,go_sem,d0,d1]) rfl ⟨rfl,HW.out.trans (((HB3.out.mono hW1).setCell (p:=⟨w.heap.size+1,0,none⟩) (by show w.heap.size<=w.heap.size+1;omega) (.int .i64 t.1)).setCell (p:=⟨w.heap.size+1,1,none⟩) (by show w.heap.size<=w.heap.size+1;omega) (.int .i64 t.2))⟩
  ·have h1':(L.length:Int)<=n:=by omega
   have HE2:=zH (show vB x n=(0,0)by rw[HE.out,Xb h0',XE (by omega)];rfl);obtain rfl:t=(0,0):=HR.out.symm.trans HE2.out;clear HE HE2 HR;exact Px
theorem IW{sup:List Int}{k n k' n' k'' n'':Int}(h:zB sup k n k' n'=true)(g:zB sup k' n' k'' n''=true):zB sup k n k'' n''=true:=by
 rw[JN]at*
 rcases h with⟨rfl,h⟩|⟨rfl,rfl,h⟩|⟨h0,rfl,rfl⟩
 ·rcases g with⟨rfl,g⟩|⟨rfl,rfl,g⟩|⟨g0,rfl,rfl⟩
  ·exact .inl ⟨rfl,g⟩
  ·exact .inl ⟨rfl,by omega⟩
  ·exact .inl ⟨rfl,h⟩
 ·rcases g with⟨h4,_⟩|⟨_,rfl,g⟩|⟨g0,_,_⟩
  ·omega
  ·exact .inr (.inl ⟨rfl,rfl,q5p h g⟩)
  ·omega
 ·exact g
def Ba(sup:List Int)(k n:Int):Prop:=k=3->0<=n/\n<sup.length
theorem pF{sup:List Int}{k n:Int}(hk:k=1\/k=2\/k=3\/k=4)(ht:Ba sup k n):zB sup k n k n=true:=by
 rw[JN];rcases hk with rfl|rfl|rfl|rfl
 ·exact .inr (.inr ⟨.inl rfl,rfl,rfl⟩)
 ·exact .inr (.inr ⟨.inr rfl,rfl,rfl⟩)
 ·exact .inr (.inl ⟨rfl,rfl,yX (ht rfl).1 (ht rfl).2⟩)
 ·exact .inl ⟨rfl,by omega⟩
theorem uQ{sup:List Int}{k n k' n':Int}(h:zB sup k n k' n'=true):(k=1\/k=2\/k=3\/k=4)/\(k'=1\/k'=2\/k'=3\/k'=4):=by
 rw[JN]at h;omega
def qn{α:Type}(f:Nat->α)(a:Nat)(b:α):Nat->α:=fun x=>if x=a then b else f x
theorem Jn{α:Type}(f:Nat->α)(a:Nat)(b:α):qn f a b a=b:=Xb rfl
theorem YU{α:Type}(f:Nat->α){a x:Nat}(b:α)(h:x≠a):qn f a b x=f x:=Xa h
def Qt(n:Nat)(f:Nat->Int):List Int:=(List.range n).map f
theorem mg(n:Nat)(f:Nat->Int):(Qt n f).length=n:=by unfold Qt;rw[Xm,List.length_range]
theorem Ls{n v:Nat}(f:Nat->Int)(hv:v<n):oN (Qt n f) v=f v:=by
 rw[VG (by rw[mg];exact hv)];unfold Qt;simp
theorem K6{n v:Nat}(f:Nat->Int)(b:Int):(Qt n f).set v b=Qt n (qn f v b):=by
 refine Wh (by rw[XH,mg,mg]) fun i h1 h2=> ?_;rw[mg]at h2;have hl:v<n->v<(Qt n f).length:=fun q=>by rw[mg];exact q
 have hg:∀(F:Nat->Int) (h:i<(Qt n F).length),(Qt n F)[i]=F i:=fun F h=>(List.getElem_eq_iff h).mpr (by unfold Qt;rw[XF,List.getElem?_range h2];rfl);rw[List.getElem_set,hg,hg];unfold qn;by_cases e:v=i
 ·subst e;simp
 ·rw[Xa e,Xa (fun q:i=v=>e q.symm)]
abbrev kX:Int:=9223372036854775807
structure Wk where
 met:Nat
 place:Nat->Nat
 back:Nat->Int
 gone:Nat->Nat
 way:List Nat
 opn:List Nat
 parts:List (List Nat)
abbrev eds(EL:List (List Int))(v:Nat):List Int:=EL[v]?.getD []
section
variable(EL:List (List Int))(n:Nat)
structure zY(S:Wk):Prop where
 wsub:∀p ∈S.way,p ∈S.opn
 winc:S.way.Pairwise (fun a b=>S.place a<S.place b)
 oinc:S.opn.Pairwise (fun a b=>S.place a<S.place b)
 olt:∀v ∈S.opn,v<n
 opos:∀v ∈S.opn,0<S.place v/\S.place v<=S.met
 zero:∀v,v<n->0<S.place v->v ∈S.opn\/v ∈S.parts.flatten
 clt:∀v ∈S.parts.flatten,v<n/\0<S.place v/\v ∉S.opn/\S.back v=kX
 cnt:S.met+cO (fun v=>decide (0<S.place v)) n=n
 gz:∀v,v<n->S.place v=0->S.gone v=0
 bin:∀v ∈S.opn,1<=S.back v/\S.back v<=S.place v/\∃u ∈S.opn,(S.place u:Int)=S.back v/\(u=v\/qQ EL n v u)
 gle:∀v ∈S.opn,S.gone v<=(eds EL v).length
 low:∀v ∈S.opn,∀t:Nat,t<n->(t:Int) ∈(eds EL v).take (S.gone v)->t ∈S.parts.flatten\/(t ∈S.opn/\S.back v<=S.place t)
 fin:∀v ∈S.opn,v ∉S.way->S.gone v=(eds EL v).length/\S.back v<S.place v
 tree:∀p ∈S.way,∀v ∈S.opn,S.place p<=S.place v->p=v\/qQ EL n p v
 subt:∀p ∈S.way,∀v ∈S.opn,v ∉S.way->S.place p<S.place v->(∀q ∈S.way,S.place p<S.place q->S.place v<S.place q)->S.back p<=S.back v
 nod:S.parts.flatten.Nodup
 ord:∀i (h:i<S.parts.length),∀v ∈S.parts[i],∀t,t<n->kV EL v t->∃j,∃h:j<S.parts.length,j<=i/\t ∈S.parts[j]
 ring:∀c ∈S.parts,∀a ∈c,∀b ∈c,a=b\/qQ EL n a b
 srt:∀c ∈S.parts,c≠ []/\c.Pairwise (· < ·)
end
section
variable{EL:List (List Int)}{n:Nat}{S:Wk}
theorem pw_inj{l:List Nat}{f:Nat->Nat}(h:l.Pairwise (fun a b=>f a<f b)){a b:Nat}(ha:a ∈l)(hb:b ∈l)(e:f a=f b):a=b:=by
 induction l with
 |nil=>cases ha
 |cons x l ih=>
  grind [List.pairwise_cons]
theorem Y8{l:List Nat}{f g:Nat->Nat}(h:l.Pairwise (fun a b=>f a<f b))(e:∀v ∈l,g v=f v):l.Pairwise (fun a b=>g a<g b):=
 (by grind [List.Pairwise.imp_of_mem])
theorem Y7{l:List Nat}{f:Nat->Nat}{v:Nat}(h:l.Pairwise (fun a b=>f a<f b))(hv:∀a ∈l,f a<f v):(l++[v]).Pairwise (fun a b=>f a<f b):=by
 grind
theorem zY.start:zY EL n ⟨0,fun _=>0,fun _=>0,fun _=>0,[],[],[]⟩where
 wsub:=(by grind)
 winc:=List.Pairwise.nil
 oinc:=List.Pairwise.nil
 olt:=(by grind)
 opos:=(by grind)
 zero:=(by grind)
 clt:=(by grind)
 cnt:=by
  have:=Rh n
  grind
 gz:=fun _ _ _=>rfl
 bin:=(by grind)
 gle:=(by grind)
 low:=(by grind)
 fin:=(by grind)
 tree:=(by grind)
 subt:=(by grind)
 nod:=by simp
 ord:=(by grind)
 ring:=(by grind)
 srt:=(by grind)
theorem zY.met_le(h:zY EL n S):S.met<=n:=by have:=h.cnt;omega
theorem zY.met_lt(h:zY EL n S){v:Nat}(hv:v<n)(h0:S.place v=0):S.met<n:=by
 have h1:=DU (p:=fun v=>decide (0<S.place v)) (g:=v) (by simp[h0]) n hv;have:=h.cnt;omega
def Wk.meet(S:Wk)(v:Nat):Wk:=⟨S.met+1,qn S.place v (S.met+1),qn S.back v ((S.met+1:Nat):Int),S.gone,S.way++[v],S.opn++[v],S.parts⟩
theorem zY.meet(h:zY EL n S){v:Nat}(hv:v<n)(h0:S.place v=0)(hr:∀p ∈S.way,qQ EL n p v):zY EL n (S.meet v):=by
 have hno:∀x ∈S.opn,x≠v:=fun x hx e=>by subst e;have:=(h.opos x hx).1;omega
 have hnc:∀x ∈S.parts.flatten,x≠v:=fun x hx e=>by subst e;have:=(h.clt x hx).2.1;omega
 have hnw:∀x ∈S.way,x≠v:=fun x hx=>hno x (h.wsub x hx);have hpl:∀x,x≠v->(S.meet v).place x=S.place x:=fun x hx=>YU _ _ hx;have hbk:∀x,x≠v->(S.meet v).back x=S.back x:=fun x hx=>YU _ _ hx;have hpv:(S.meet v).place v=S.met+1:=Jn _ _ _;have hbv:(S.meet v).back v=((S.met+1:Nat):Int):=Jn _ _ _;have hmo:∀{x},x ∈(S.meet v).opn->x ∈S.opn\/x=v:=fun {x} hx=>by
  have hx:x ∈S.opn++[v]:=hx
  grind
 have hmw:∀{x},x ∈(S.meet v).way->x ∈S.way\/x=v:=fun {x} hx=>by
  have hx:x ∈S.way++[v]:=hx
  grind
 have hio:∀{x},x ∈S.opn->x ∈(S.meet v).opn:=fun {x} hx=>List.mem_append_left _ hx;have hiw:∀{x},x ∈S.way->x ∈(S.meet v).way:=fun {x} hx=>List.mem_append_left _ hx;have hiv:v ∈(S.meet v).opn:=by show v ∈S.opn++[v];simp
 have hwv:v ∈(S.meet v).way:=by show v ∈S.way++[v];simp
 refine⟨?_,?_,?_,?_,?_,?_,?_,?_,?_,?_,?_,?_,?_,?_,?_,h.nod,h.ord,h.ring,h.srt⟩
 ·intro p hp;rcases hmw hp with q|rfl
  ·exact hio (h.wsub p q)
  ·exact hiv
 ·show(S.way++[v]).Pairwise _;refine Y7 (Y8 h.winc (by grind)) (fun a ha=> ?_);rw[hpl a (hnw a ha),hpv];have:=(h.opos a (h.wsub a ha)).2;omega
 ·show(S.opn++[v]).Pairwise _;refine Y7 (Y8 h.oinc (by grind)) (fun a ha=> ?_);rw[hpl a (hno a ha),hpv];have:=(h.opos a ha).2;omega
 ·intro x hx;rcases hmo hx with q|rfl
  ·exact h.olt x q
  ·exact hv
 ·intro x hx;rcases hmo hx with q|rfl
  ·rw[hpl x (hno x q)];have:=h.opos x q;exact⟨this.1,Nat.le_succ_of_le this.2⟩
  ·rw[hpv];exact⟨by omega,zn _⟩
 ·intro x hx hp;by_cases e:x=v
  ·grind
  ·rw[hpl x e]at hp;rcases h.zero x hx hp with q|q
   ·grind
   ·exact .inr q
 ·intro x hx;have hx':x ∈S.parts.flatten:=hx;have e:=hnc x hx';obtain⟨h1,h2,h3,h4⟩:=h.clt x hx'
  grind
 ·have h1:=DU (p:=fun v=>decide (0<S.place v)) (g:=v) (by simp[h0]) n hv;have h2:(fun x=>decide (0<(S.meet v).place x))=fun k=>decide (0<S.place k)||decide (k=v):=(by grind)
  rw[h2];have:=h.cnt;show S.met+1+_=n;omega
 ·intro x hx hp;by_cases e:x=v
  ·grind
  ·rw[hpl x e]at hp;exact h.gz x hx hp
 ·intro x hx;rcases hmo hx with q|rfl
  ·rw[hpl x (hno x q),hbk x (hno x q)];obtain⟨h1,h2,u,h3,h4,h5⟩:=h.bin x q
   grind
  grind
 ·intro x hx;rcases hmo hx with q|rfl
  ·exact h.gle x q
  ·show S.gone x<=_;rw[h.gz x hv h0];omega
 ·intro x hx t ht hm;rcases hmo hx with q|rfl
  ·rcases h.low x q t ht hm with r|⟨r1,r2⟩
   ·exact .inl r
   grind
  ·have hm:(t:Int) ∈(eds EL x).take (S.gone x):=hm;rw[h.gz x hv h0,List.take_zero]at hm;cases hm
 ·intro x hx hw;rcases hmo hx with q|rfl
  ·rw[hbk x (hno x q),hpl x (hno x q)];exact h.fin x q (fun r=>hw (hiw r))
  grind
 ·intro p hp x hx hpx;rcases hmw hp with q|rfl
  ·rcases hmo hx with r|rfl
   ·rw[hpl p (hnw p q),hpl x (hno x r)]at hpx;exact h.tree p q x r hpx
   grind
  ·rcases hmo hx with r|rfl
   ·rw[hpv,hpl x (hno x r)]at hpx;have:=(h.opos x r).2;omega
   omega
 ·intro p hp x hx kJ hpx hq;have hxv:x≠v:=(by grind)
  have hxo:x ∈S.opn:=(by grind)
  rcases hmw hp with q|rfl
  ·rw[hpl p (hnw p q),hpl x hxv]at hpx;rw[hbk p (hnw p q),hbk x hxv];refine h.subt p q x hxo (by grind) hpx (fun y hy hpy=> ?_)
   grind
  ·rw[hpv,hpl x hxv]at hpx;have:=(h.opos x hxo).2;omega
def Wk.go(S:Wk)(v:Nat):Wk:={S with gone:=qn S.gone v (S.gone v+1)}
theorem zY.go(h:zY EL n S){v:Nat}(hw:v ∈S.way)(hl:S.gone v<(eds EL v).length)(ht:∀t:Nat,t<n->(eds EL v)[S.gone v]=(t:Int)->t ∈S.parts.flatten\/(t ∈S.opn/\S.back v<=S.place t)):zY EL n (S.go v):=by
 refine⟨h.wsub,h.winc,h.oinc,h.olt,h.opos,h.zero,h.clt,h.cnt,?_,h.bin,?_,?_,?_,h.tree,h.subt,h.nod,h.ord,h.ring,h.srt⟩
 ·intro x hx hp;have hne:x≠v:=fun e=>by subst e;have:=(h.opos x (h.wsub x hw)).1;exact absurd hp (by show S.place x≠0;omega)
  show qn _ _ _ _=0;rw[YU _ _ hne];exact h.gz x hx hp
 ·intro x hx;show qn _ _ _ _<=_;by_cases e:x=v
  ·grind [Jn]
  ·rw[YU _ _ e];exact h.gle x hx
 ·intro x hx t htn hm;have hm:(t:Int) ∈(eds EL x).take (qn S.gone v (S.gone v+1) x):=hm;by_cases e:x=v
  ·subst e;rw[Jn,Xx,Xc hl,Xu]at hm;rcases hm with hm|hm
   ·exact h.low x hx t htn hm
   ·refine ht t htn ?_
    grind
  ·rw[YU _ _ e]at hm;exact h.low x hx t htn hm
 ·intro x hx kJ;have e:x≠v:=fun e=>kJ (by rw[e];exact hw);show qn _ _ _ _=_/\_;rw[YU _ _ e];exact h.fin x hx kJ
def Wk.lower(S:Wk)(v:Nat)(b:Int):Wk:={S with back:=qn S.back v b}
theorem zY.lower(h:zY EL n S){v:Nat}{b:Int}(hw:v ∈S.way)(h1:1<=b)(h2:b<=S.back v)(hu:∃u ∈S.opn,(S.place u:Int)=b/\(u=v\/qQ EL n v u)):zY EL n (S.lower v b):=by
 have hle:∀x,(S.lower v b).back x<=S.back x:=fun x=>by
  show qn _ _ _ _<=_;by_cases e:x=v
  ·grind [Jn]
  ·rw[YU _ _ e];omega
 have hne:∀x,x≠v->(S.lower v b).back x=S.back x:=fun x e=>YU _ _ e;refine⟨h.wsub,h.winc,h.oinc,h.olt,h.opos,h.zero,?_,h.cnt,h.gz,?_,h.gle,?_,?_,h.tree,?_,h.nod,h.ord,h.ring,h.srt⟩
 ·intro x hx;obtain⟨g1,g2,g3,g4⟩:=h.clt x hx;have e:x≠v:=fun e=>g3 (by rw[e];exact h.wsub v hw);exact⟨g1,g2,g3,by grind⟩
 ·intro x hx;by_cases e:x=v
  ·subst e;have hb:(S.lower x b).back x=b:=Jn _ _ _;rw[hb];exact⟨h1,Int.le_trans h2 (h.bin x hx).2.1,hu⟩
  ·rw[hne x e];exact h.bin x hx
 ·intro x hx t ht hm;rcases h.low x hx t ht hm with r|⟨r1,r2⟩
  ·exact .inl r
  ·exact .inr ⟨r1,Int.le_trans (hle x) r2⟩
 ·intro x hx kJ;have e:x≠v:=fun e=>kJ (by rw[e];exact hw);rw[hne x e];exact h.fin x hx kJ
 ·intro p hp x hx kJ hpx hq;have e:x≠v:=fun e=>kJ (by rw[e];exact hw);rw[hne x e];exact Int.le_trans (hle p) (h.subt p hp x hx kJ hpx hq)
theorem zY.see(h:zY EL n S)(hn:(n:Int)<=kX){v t:Nat}(hw:v ∈S.way)(ht:t<n)(h0:0<S.place t)(he:kV EL v t):
  zY EL n (S.lower v (min (S.back v) (S.back t)))/\(t ∈S.parts.flatten\/(t ∈S.opn/\min (S.back v) (S.back t)<=S.place t)):=by
 have xU:=h.wsub v hw;obtain⟨b1,b2,u,hu,b3,b4⟩:=h.bin v xU;rcases h.zero t ht h0 with q|q
 ·obtain⟨c1,c2,x,hx,c3,c4⟩:=h.bin t q;refine⟨h.lower hw (by omega) (by omega) ?_,(by grind)⟩;by_cases hm:S.back v<=S.back t
  ·grind
  ·rw[show min (S.back v) (S.back t)=S.back t by omega];refine⟨x,hx,c3,.inr ?_⟩;rcases c4 with rfl|c4
   ·exact .one he
   ·exact(qQ.one he).join ht c4
 ·have hb:S.back t=kX:=(h.clt t q).2.2.2;have hp:=(h.opos v xU).2;have hn':(S.place v:Int)<=kX:=by have:=h.met_le;omega
  rw[show min (S.back v) (S.back t)=S.back v by omega];exact⟨h.lower hw b1 (Int.le_refl _) ⟨u,hu,b3,b4⟩,.inl q⟩
theorem zY.none_open(h:zY EL n S)(hw:S.way=[]):S.opn=[]:=by
 have H:∀k v,v ∈S.opn->S.place v<=k->False:=by
  intro k
  induction k with
  |zero=>intro v hv hk;have:=(h.opos v hv).1;omega
  |succ k ih=>
   intro v hv hk;obtain⟨_,_,u,hu,e,_⟩:=h.bin v hv;have:=(h.fin v hv (by grind)).2
   grind
 cases ho:S.opn with
 |nil=>rfl
 |cons v l=>exact(H (S.place v) v (by grind) (zn _)).elim
def Wk.pop(S:Wk):Wk:={S with way:=S.way.dropLast}
theorem zY.pop(h:zY EL n S){W:List Nat}{v:Nat}(hw:S.way=W++[v])(hg:S.gone v=(eds EL v).length)(hb:S.back v<S.place v)(hl:∀p ∈W,(∀q ∈W,S.place q<=S.place p)->S.back p<=S.back v):zY EL n S.pop:=by
 have BX:S.pop.way=W:=by show S.way.dropLast=W;grind
 have hin:∀{p},p ∈W->p ∈S.way:=(by grind)
 have hvw:v ∈S.way:=by grind
 have xU:=h.wsub v hvw;have tQ:=h.winc;rw[hw,List.pairwise_append]at tQ;have hlt:∀p ∈W,S.place p<S.place v:=(by grind)
 refine⟨?_,?_,h.oinc,h.olt,h.opos,h.zero,h.clt,h.cnt,h.gz,h.bin,h.gle,h.low,?_,?_,?_,h.nod,h.ord,h.ring,h.srt⟩
 ·intro p hp;rw[BX]at hp;exact h.wsub p (hin hp)
 ·rw[BX];exact tQ.1
 ·intro x hx kJ;rw[BX]at kJ;by_cases e:x=v
  ·subst e;exact⟨hg,hb⟩
  ·exact h.fin x hx (by grind)
 ·intro p hp x hx hpx;rw[BX]at hp;exact h.tree p (hin hp) x hx hpx
 ·intro p hp x hx kJ hpx hq;rw[BX]at hp kJ hq;have hpx:S.place p<S.place x:=hpx;show S.back p<=S.back x;have hq:∀q ∈W,S.place p<S.place q->S.place x<S.place q:=hq;by_cases e:x=v
  ·grind
  ·have q17:x ∉S.way:=(by grind)
   rcases Xl (S.place x) (S.place v)with r|r
   ·refine h.subt p (hin hp) x hx q17 hpx (fun q hq' hpq=> ?_)
    grind
   ·have r':S.place v<S.place x:=by
     rcases Xl (S.place v) (S.place x)with q|q
     ·exact q
     ·exact absurd (pw_inj h.oinc hx xU (by omega)) e
    have h1:=h.subt v hvw x hx q17 r' (by grind)
    grind
def Wk.close(S:Wk)(O:List Nat)(X c:List Nat):Wk:=⟨S.met,S.place,fun x=>if x ∈X then kX else S.back x,S.gone,S.way.dropLast,O,S.parts++[c]⟩
theorem zY.close(h:zY EL n S){W O X c:List Nat}{v:Nat}(hw:S.way=W++[v])(ho:S.opn=O++v::X)(hg:S.gone v=(eds EL v).length)(hb:S.back v=S.place v)(hc:c.Perm (v::X))(hs:c.Pairwise (· <= ·)):zY EL n (S.close O (v::X) c):=by
 have hvw:v ∈S.way:=by grind
 have xU:=h.wsub v hvw;have tQ:=h.winc;rw[hw,List.pairwise_append]at tQ;have hlt:∀p ∈W,S.place p<S.place v:=(by grind)
 have hoi:=h.oinc;rw[ho,List.pairwise_append,List.pairwise_cons]at hoi;have hO:∀x ∈O,S.place x<S.place v:=(by grind)
 have hX:∀x ∈X,S.place v<S.place x:=(by grind)
 have nO:∀x ∈v::X,x ∈S.opn:=(by grind)
 have lq:∀x ∈O,x ∈S.opn:=(by grind)
 have hvX:∀x ∈v::X,S.place v<=S.place x:=(by grind)
 have hsp:∀x ∈S.opn,(x ∈O/\S.place x<S.place v)\/(x ∈v::X/\S.place v<=S.place x):=(by grind)
 have hOX:∀x ∈O,x ∉v::X:=(by grind)
 have hXw:∀x ∈X,x ∉S.way:=(by grind)
 have hXf:∀x ∈X,S.gone x=(eds EL x).length/\S.back x<S.place x/\S.back v<=S.back x:=fun x hx=>by
  have hxo:=nO x (XY _ hx);obtain⟨h1,h2⟩:=h.fin x hxo (hXw x hx);exact⟨h1,h2,h.subt v hvw x hxo (hXw x hx) (hX x hx) (by grind)⟩
 have hto:∀k x,x ∈v::X->S.place x<=k->x=v\/qQ EL n x v:=by
  intro k
  induction k with
  |zero=>grind
  |succ k ih=>
   intro x hx hk;rcases XZ.mp hx with q|q
   ·exact .inl q
   ·obtain⟨_,h2,h3⟩:=hXf x q;obtain⟨_,_,u,hu,e,hw'⟩:=h.bin x (nO x hx);have huX:u ∈v::X:=by
     grind
    rcases hw' with rfl|hw'
    ·omega
    ·rcases ih u huX (by omega)with rfl|r
     ·grind
     ·exact .inr (hw'.join (h.olt u hu) r)
 have q2b:∀x ∈v::X,v=x\/qQ EL n v x:=fun x hx=>h.tree v hvw x (nO x hx) (hvX x hx);have hgl:∀x ∈v::X,S.gone x=(eds EL x).length/\(S.place v:Int)<=S.back x:=(by grind)
 have Ha:∀x ∈v::X,∀t,t<n->kV EL x t->t ∈S.parts.flatten\/t ∈v::X:=fun x hx t ht he=>by
  obtain⟨h1,h2⟩:=hgl x hx;rcases h.low x (nO x hx) t ht (by rw[h1,XL];exact he)with q|⟨q1,q2⟩
  all_goals grind
 have hmc:∀x,x ∈c↔x ∈v::X:=fun x=>hc.mem_iff;have hfl:(S.close O (v::X) c).parts.flatten=S.parts.flatten++c:=by show(S.parts++[c]).flatten=_;simp
 have hpw:(S.close O (v::X) c).way=W:=by show S.way.dropLast=W;grind
 have og:∀x ∈O,(S.close O (v::X) c).back x=S.back x:=fun x hx=>Xa (hOX x hx);have hbX:∀x ∈v::X,(S.close O (v::X) c).back x=kX:=fun x hx=>Xb hx;have hWw:∀{p},p ∈W->p ∈S.way:=(by grind)
 have hWO:∀p ∈W,p ∈O:=fun p hp=>by
  rcases hsp p (h.wsub p (hWw hp))with⟨q,_⟩|⟨_,q⟩
  all_goals grind
 have hwc:∀x ∈O,x ∉W->x ∉S.way:=(by grind)
 have hnX:(v::X).Nodup:=by
  have:(v::X).Pairwise (fun a b=>S.place a<S.place b):=by grind [List.pairwise_cons]
  exact this.imp (by grind)
 refine⟨?_,?_,hoi.1,?_,?_,?_,?_,h.cnt,h.gz,?_,?_,?_,?_,?_,?_,?_,?_,?_,?_⟩
 ·intro p hp;rw[hpw]at hp;exact hWO p hp
 ·rw[hpw];exact tQ.1
 ·exact fun x hx=>h.olt x (lq x hx)
 ·exact fun x hx=>h.opos x (lq x hx)
 ·intro x hx hp;rw[hfl,Xu];rcases h.zero x hx hp with q|q
  ·rcases hsp x q with⟨r,_⟩|⟨r,_⟩
   ·exact .inl r
   grind
  grind
 ·intro x hx;rw[hfl,Xu]at hx;rcases hx with q|q
  ·obtain⟨h1,h2,h3,h4⟩:=h.clt x q;refine⟨h1,h2,fun r=>h3 (lq x r),?_⟩;show(if x ∈v::X then kX else S.back x)=kX;rw[Xa (fun r=>h3 (nO x r))];exact h4
  ·rw[hmc]at q;exact⟨h.olt x (nO x q),(h.opos x (nO x q)).1,fun r=>hOX x r q,hbX x q⟩
 ·intro x hx;rw[og x hx];obtain⟨h1,h2,u,hu,h3,h4⟩:=h.bin x (lq x hx);refine⟨h1,h2,u,?_,h3,h4⟩;rcases hsp u hu with⟨r,_⟩|⟨_,r⟩
  ·exact r
  ·have:=hO x hx;omega
 ·exact fun x hx=>h.gle x (lq x hx)
 ·intro x hx t ht hm;rw[hfl,Xu,og x hx];rcases h.low x (lq x hx) t ht hm with q|⟨q1,q2⟩
  ·exact .inl (.inl q)
  ·rcases hsp t q1 with⟨r,_⟩|⟨r,_⟩
   ·exact .inr ⟨r,q2⟩
   ·exact .inl (.inr ((hmc t).mpr r))
 ·intro x hx kJ;rw[hpw]at kJ;rw[og x hx];exact h.fin x (lq x hx) (hwc x hx kJ)
 ·intro p hp x hx hpx;rw[hpw]at hp;exact h.tree p (hWw hp) x (lq x hx) hpx
 ·intro p hp x hx kJ hpx hq;rw[hpw]at hp kJ hq;rw[og p (hWO p hp),og x hx];refine h.subt p (hWw hp) x (lq x hx) (hwc x hx kJ) hpx (fun q hq' hpq=> ?_);rw[hw,Xu,XR]at hq';rcases hq' with hq'|rfl
  ·exact hq q hq' hpq
  ·exact hO x hx
 ·rw[hfl,List.nodup_append];refine⟨h.nod,hc.nodup_iff.mpr hnX,fun a ha b hb e=> ?_⟩;subst e;exact(h.clt a ha).2.2.1 (nO a ((hmc a).mp hb))
 ·intro i hi x hx t ht he;have hi':i<(S.parts++[c]).length:=hi;have hx:x ∈(S.parts++[c])[i]:=hx;rcases Xl i S.parts.length with q|q
  ·rw[List.getElem_append_left q]at hx;obtain⟨j,hj,hji,hm⟩:=h.ord i q x hx t ht he;refine⟨j,by show j<(S.parts++[c]).length;simp;omega,hji,?_⟩;show t ∈(S.parts++[c])[j]'_;rw[List.getElem_append_left hj];exact hm
  ·have hi2:i=S.parts.length:=by simp at hi';omega
   subst hi2;have hx:x ∈c:=by simpa using hx
   rcases Ha x ((hmc x).mp hx) t ht he with r|r
   ·obtain⟨l,hl,hm⟩:=List.mem_flatten.mp r;obtain⟨j,hj,rfl⟩:=We hl;refine⟨j,by show j<(S.parts++[c]).length;simp;omega,by omega,?_⟩;show t ∈(S.parts++[c])[j]'_;rw[List.getElem_append_left hj];exact hm
   ·refine⟨S.parts.length,hi,zn _,?_⟩;have e:(S.parts++[c])[S.parts.length]'(by simp)=c:=by simp
    have hm:t ∈(S.parts++[c])[S.parts.length]'(by simp):=by rw[e];exact(hmc t).mpr r
    exact hm
 ·intro k hk a ha b hb;have hk:k ∈S.parts++[c]:=hk;rw[Xu,XR]at hk;rcases hk with hk|rfl
  ·exact h.ring k hk a ha b hb
  ·have ha:=(hmc a).mp ha;have hb:=(hmc b).mp hb;rcases hto _ a ha (zn _)with rfl|q
   ·exact q2b b hb
   ·rcases q2b b hb with rfl|r
    ·exact .inr q
    ·exact .inr (q.join (h.olt v xU) r)
 ·intro k hk;have hk:k ∈S.parts++[c]:=hk;rw[Xu,XR]at hk;rcases hk with hk|rfl
  ·exact h.srt k hk
  ·refine⟨fun e=> ?_,?_⟩
   ·have:v ∈k:=(hmc v).mpr (XV ..);rw[e]at this;cases this
   ·have hn:=hc.nodup_iff.mpr hnX;exact(List.pairwise_and_iff.mpr ⟨hs,hn⟩).imp (fun {a b} q=>by have:=q.2;omega)
structure Qk(EL:List (List Int))(n:Nat)(P:List (List Nat)):Prop where
 all:∀v,v<n->v ∈P.flatten
 lt:∀v ∈P.flatten,v<n
 nod:P.flatten.Nodup
 ord:∀i (h:i<P.length),∀v ∈P[i],∀t,t<n->kV EL v t->∃j,∃h:j<P.length,j<=i/\t ∈P[j]
 ring:∀c ∈P,∀a ∈c,∀b ∈c,a=b\/qQ EL n a b
 srt:∀c ∈P,c≠ []/\c.Pairwise (· < ·)
theorem zY.end_(h:zY EL n S)(hw:S.way=[])(hm:∀v,v<n->0<S.place v):Qk EL n S.parts:=
 ⟨fun v hv=>(h.zero v hv (hm v hv)).resolve_left (by rw[h.none_open hw];simp),fun v hv=>(h.clt v hv).1,h.nod,h.ord,h.ring,h.srt⟩
end
structure qA(w w':World)(ρ:Nat->Nat)(r:Nat):Prop where
 os:w'.os=w.os
 tape:w'.tape=w.tape
 output:w'.output=w.output
 size:w.heap.size<=w'.heap.size
 block:∀b,b<w.heap.size->ρ b≠r->w'.heap[b]? =w.heap[b]?
theorem qA.refl{w:World}{ρ:Nat->Nat}{r:Nat}:qA w w ρ r:=⟨rfl,rfl,rfl,zn _,fun _ _ _=>rfl⟩
theorem qA.cell{w:World}{ρ:Nat->Nat}{r:Nat}{a:Addr}(h:ρ a.block=r)(v:Value):qA w (w.setCell a v) ρ r:=⟨rfl,rfl,rfl,by simp,fun b _ hr=>XJ w a v b (fun e=>hr (by rw[e];exact h))⟩
theorem qA.grown{w w':World}{ρ:Nat->Nat}{r:Nat}{row:Option Nat}(hg:w.grownBy w' row)(h:∀b,row=some b->ρ b=r):qA w w' ρ r:=⟨hg.os,hg.tape,hg.output,hg.size,fun b hb hr=>hg.block b hb (fun e=>hr (h b e.symm))⟩
theorem qA.below{w w':World}{ρ:Nat->Nat}{r:Nat}(h:Below w.heap.size w w'):qA w w' ρ r:=⟨h.os,h.tape,h.output,h.size,fun b hb _=>h.block b hb⟩
theorem qA.trans{w w1 w2:World}{ρ:Nat->Nat}{r:Nat}(h:qA w w1 ρ r)(h':qA w1 w2 ρ r):qA w w2 ρ r:=⟨h'.os.trans h.os,h'.tape.trans h.tape,h'.output.trans h.output,Xe h.size h'.size,fun b hb hr=>(h'.block b (Xp hb h.size) hr).trans (h.block b hb hr)⟩
theorem qA.low{w w':World}{ρ:Nat->Nat}{r B:Nat}(h:qA w w' ρ r)(hl:∀b,b<B->ρ b=9)(hB:B<=w.heap.size)(hr:r≠9):Below B w w':=⟨h.os,h.tape,h.output,h.size,fun b hb=>h.block b (Xp hb hB) (by rw[hl b hb];exact fun e=>hr e.symm)⟩
theorem Jc{w w':World}{ρ:Nat->Nat}{r g:Nat}{vs:List Value}{T:TypeId}(h:zm w g vs T)(hO:qA w w' ρ r)(hr:ρ g≠r):zm w' g vs T:=(hO.block g (zm.lt h) hr).trans h
theorem JK{w w':World}{ρ:Nat->Nat}{r B e k n:Nat}{v:Value}{xs:List Value}(h:w.ownsRow B e k v n xs)(hO:qA w w' ρ r)(hr:∀b,v.ownBlock=some b->ρ b≠r):w'.ownsRow B e k v n xs:=by
 have hlt:=vA h;refine⟨h.1,?_⟩;rcases h.2 with h0|⟨g,cap,cur,hv,hg,hh,rest⟩
 ·exact .inl h0
 ·exact .inr ⟨g,cap,cur,hv,hg,(hO.block g (hlt g (by rw[hv];rfl)) (hr g (by rw[hv];rfl))).trans hh,rest⟩
theorem UF{w:World}{ρ:Nat->Nat}{N r:Nat}(hN:ρ N=r\/w.heap.size<=N):∀b,b<w.heap.size->ρ b≠r->qn ρ N r b=ρ b:=fun b hb hr=>by
 refine YU _ _ (fun e=> ?_);subst e;rcases hN with q|q
 ·exact hr q
 ·omega
theorem wE{w w9:World}{o:Obj}{v:Value}{ρ:Nat->Nat}{r:Nat}(hlt:∀b,v.ownBlock=some b->ρ b=r)(hg:(w.alloc o).grownBy w9 v.ownBlock):qA w w9 ρ r:=
 (qA.below ((zb _ _).alloc (zn _) o)).trans (qA.grown hg hlt)
theorem LH{w:World}{o:Obj}{v:Value}{ρ:Nat->Nat}{r N:Nat}(hlt:∀b,v.ownBlock=some b->ρ b=r)(hor:v.ownBlock=some N\/N=(w.alloc o).heap.size):ρ N=r\/w.heap.size<=N:=by
 rcases hor with q|q
 ·exact .inl (hlt N q)
 ·exact .inr (by simp at q;omega)
theorem LG{g9 k c r:Nat}{ρ:Nat->Nat}:∀b,(Value.slice (some ⟨g9,0,none⟩) k c).ownBlock=some b->qn ρ g9 r b=r:=fun b hb=>by
 have:g9=b:=by simpa[Value.ownBlock]using hb
 subst this;exact Jn _ _ _
def qe(l:List Nat):List Value:=l.map (fun k:Nat=>Value.int .i64 (k:Int))
theorem ED(l:List Nat):(qe l).length=l.length:=Xm ..
theorem TL(l:List Nat)(v:Nat):qe (l++[v])=qe l++[.int .i64 (v:Int)]:=by unfold qe;grind
theorem UG(f:Nat->Nat)(v b:Nat):(fun x=>((qn f v b x:Nat):Int))=qn (fun x=>(f x:Int)) v (b:Int):=funext fun x=>by
 unfold qn
 grind
theorem LX(w:World)(v:Value)(T:TypeId):∀(j:Nat) (u:Value),[v][j]? =some u->(w.alloc (.cells #[v] T)).cell? ((⟨w.heap.size,0,none⟩:Addr).add j)=some u:=fun j u hj=>by
 match j,hj with
 |0,hj=>simp at hj;subst hj;simp[Addr.add]
 |j+1,hj=>simp at hj
def mP(w:World)(B:Nat)(ρ:Nat->Nat)(v:Value)(c:List Nat):Prop:=∃gi ci rest,v= .slice (some ⟨gi,0,none⟩) c.length ci/\B<=gi/\ρ gi=7/\c.length<=ci/\ci<=9223372036854775807/\zm w gi (qe c++rest) 3
theorem mP.move{w w':World}{B r:Nat}{ρ ρ':Nat->Nat}{v:Value}{c:List Nat}(h:mP w B ρ v c)(hO:qA w w' ρ r)(hr:r≠7)(hρ:∀b,b<w.heap.size->ρ b≠r->ρ' b=ρ b):mP w' B ρ' v c:=by
 obtain⟨gi,ci,rest,h1,h2,h3,h4,h5,h6⟩:=h;have hn:ρ gi≠r:=by omega
 exact⟨gi,ci,rest,h1,h2,by grind [zm.lt],h4,h5,Jc h6 hO hn⟩
structure fC where
 gp:Nat
 gb:Nat
 gg:Nat
 E:Option Addr
 ce:Nat
 Ay:Option Addr
 cy:Nat
 Ao:Option Addr
 co:Nat
 Ap:Option Addr
 cp:Nat
 vs:List Value
abbrev wkV(S:Wk)(n:Nat)(a:fC):List Value:=[.slice a.E n a.ce,.int .i64 (S.met:Int),.slice (some ⟨a.gp,0,none⟩) n n,.slice (some ⟨a.gb,0,none⟩) n n,.slice (some ⟨a.gg,0,none⟩) n n,.slice a.Ay S.way.length a.cy,.slice a.Ao S.opn.length a.co,.slice a.Ap S.parts.length a.cp]
structure zJ(w:World)(B g:Nat)(EL:List (List Int))(n:Nat)(S:Wk)(a:fC)(ρ:Nat->Nat):Prop where
 low:∀b,b<B->ρ b=9
 size:B<=w.heap.size
 len:EL.length=n
 n0:0<=n
 n1:n<=1048576
 edges:zd (zM zu 1) 1 w B a.E a.ce EL
 el:∀l ∈EL,l.length<=1048576
 blk:zm w g (wkV S n a) 174
 pl:qk w a.gp (Qt n (fun v=>(S.place v:Int)))
 bk:qk w a.gb (Qt n S.back)
 gn:qk w a.gg (Qt n (fun v=>(S.gone v:Int)))
 way:w.ownsRow B 3 1 (.slice a.Ay S.way.length a.cy) S.way.length (qe S.way)
 opn:w.ownsRow B 3 1 (.slice a.Ao S.opn.length a.co) S.opn.length (qe S.opn)
 prt:w.ownsRow B 27 1 (.slice a.Ap S.parts.length a.cp) S.parts.length a.vs
 pin:∀(i:Nat) (v:Value) (c:List Nat),a.vs[i]? =some v->S.parts[i]? =some c->mP w B ρ v c
 r0:ρ g=0
 r1:ρ a.gp=1
 r2:ρ a.gb=2
 r3:ρ a.gg=3
 r4:∀b,(Value.slice a.Ay S.way.length a.cy).ownBlock=some b->ρ b=4
 r5:∀b,(Value.slice a.Ao S.opn.length a.co).ownBlock=some b->ρ b=5
 r6:∀b,(Value.slice a.Ap S.parts.length a.cp).ownBlock=some b->ρ b=6
section
variable{w w':World}{B g n:Nat}{EL:List (List Int)}{S:Wk}{a:fC}{ρ ρ':Nat->Nat}
structure Bn(w:World)(B g:Nat)(EL:List (List Int))(n:Nat)(S:Wk)(a:fC)(ρ:Nat->Nat)(r:Nat):Prop where
 low:∀b,b<B->ρ b=9
 size:B<=w.heap.size
 edges:zd (zM zu 1) 1 w B a.E a.ce EL
 blk:r≠0->zm w g (wkV S n a) 174
 pl:r≠1->qk w a.gp (Qt n (fun v=>(S.place v:Int)))
 bk:r≠2->qk w a.gb (Qt n S.back)
 gn:r≠3->qk w a.gg (Qt n (fun v=>(S.gone v:Int)))
 way:r≠4->w.ownsRow B 3 1 (.slice a.Ay S.way.length a.cy) S.way.length (qe S.way)
 opn:r≠5->w.ownsRow B 3 1 (.slice a.Ao S.opn.length a.co) S.opn.length (qe S.opn)
 prt:r≠6->w.ownsRow B 27 1 (.slice a.Ap S.parts.length a.cp) S.parts.length a.vs
 pin:r≠7->∀(i:Nat) (v:Value) (c:List Nat),a.vs[i]? =some v->S.parts[i]? =some c->mP w B ρ v c
 r0:ρ g=0
 r1:ρ a.gp=1
 r2:ρ a.gb=2
 r3:ρ a.gg=3
 r4:r≠4->∀b,(Value.slice a.Ay S.way.length a.cy).ownBlock=some b->ρ b=4
 r5:r≠5->∀b,(Value.slice a.Ao S.opn.length a.co).ownBlock=some b->ρ b=5
 r6:r≠6->∀b,(Value.slice a.Ap S.parts.length a.cp).ownBlock=some b->ρ b=6
theorem zJ.move(h:zJ w B g EL n S a ρ){r:Nat}(hO:qA w w' ρ r)(hρ:∀b,b<w.heap.size->ρ b≠r->ρ' b=ρ b)(Bz:r≠9)(h0:ρ' g=0)(h1:ρ' a.gp=1)(h2:ρ' a.gb=2)(h3:ρ' a.gg=3):Bn w' B g EL n S a ρ' r where
 low:=fun b hb=>by rw[hρ b (Xp hb h.size) (by rw[h.low b hb];omega)];exact h.low b hb
 size:=Xe h.size hO.size
 edges:=h.edges.below_to (zM.keeps zu.keeps 1) (hO.low h.low h.size Bz) (zn _)
 blk:=fun hr=>Jc h.blk hO (by rw[h.r0];omega)
 pl:=fun hr=>Jc h.pl hO (by rw[h.r1];omega)
 bk:=fun hr=>Jc h.bk hO (by rw[h.r2];omega)
 gn:=fun hr=>Jc h.gn hO (by rw[h.r3];omega)
 way:=fun hr=>JK h.way hO (fun b hb=>by rw[h.r4 b hb];omega)
 opn:=fun hr=>JK h.opn hO (fun b hb=>by rw[h.r5 b hb];omega)
 prt:=fun hr=>JK h.prt hO (fun b hb=>by rw[h.r6 b hb];omega)
 pin:=fun hr i v c hv hc=>(h.pin i v c hv hc).move hO hr hρ
 r0:=h0
 r1:=h1
 r2:=h2
 r3:=h3
 r4:=fun hr b hb=>by rw[hρ b (vA h.way b hb) (by rw[h.r4 b hb];omega)];exact h.r4 b hb
 r5:=fun hr b hb=>by rw[hρ b (vA h.opn b hb) (by rw[h.r5 b hb];omega)];exact h.r5 b hb
 r6:=fun hr b hb=>by rw[hρ b (vA h.prt b hb) (by rw[h.r6 b hb];omega)];exact h.r6 b hb
theorem zJ.roles(h:zJ w B g EL n S a ρ):g<w.heap.size/\a.gp<w.heap.size/\a.gb<w.heap.size/\a.gg<w.heap.size:=⟨zm.lt h.blk,zm.lt h.pl,zm.lt h.bk,zm.lt h.gn⟩
theorem zJ.moveU(h:zJ w B g EL n S a ρ){r N:Nat}(hO:qA w w' ρ r)(hN:ρ N=r\/w.heap.size<=N)(hr:4<=r)(Bz:r≠9):Bn w' B g EL n S a (qn ρ N r) r:=by
 obtain⟨h0,h1,h2,h3⟩:=h.roles;have hu:=UF hN;refine h.move hO hu Bz ?_ ?_ ?_ ?_
 ·rw[hu g h0 (by rw[h.r0];omega)];exact h.r0
 ·rw[hu _ h1 (by rw[h.r1];omega)];exact h.r1
 ·rw[hu _ h2 (by rw[h.r2];omega)];exact h.r2
 ·rw[hu _ h3 (by rw[h.r3];omega)];exact h.r3
theorem zJ.moveS(h:zJ w B g EL n S a ρ){r:Nat}(hO:qA w w' ρ r)(Bz:r≠9):Bn w' B g EL n S a ρ r:=h.move hO (fun _ _ _=>rfl) Bz h.r0 h.r1 h.r2 h.r3
theorem zJ.keep(h:zJ w B g EL n S a ρ)(hb:Below w.heap.size w w'):zJ w' B g EL n S a ρ:=
 let q:=h.moveS (r:=10) (qA.below hb) (by decide)
 ⟨q.low,q.size,h.len,h.n0,h.n1,q.edges,h.el,q.blk (by decide),q.pl (by decide),q.bk (by decide),q.gn (by decide),q.way (by decide),q.opn (by decide),q.prt (by decide),q.pin (by decide),q.r0,q.r1,q.r2,q.r3,q.r4 (by decide),q.r5 (by decide),q.r6 (by decide)⟩
theorem zJ.place(h:zJ w B g EL n S a ρ){v k:Nat}{z:Int}(hz:z=(k:Int)):zJ (w.setCell ⟨a.gp,v,none⟩ (.int .i64 z)) B g EL n {S with place:=qn S.place v k} a ρ:=
 let q:=h.moveS (r:=1) (qA.cell (a:=⟨a.gp,v,none⟩) h.r1 (.int .i64 z)) (by decide)
 ⟨q.low,q.size,h.len,h.n0,h.n1,q.edges,h.el,q.blk (by decide),by have:=h.pl.set (t:=v) z;subst hz;rw[K6,<-UG]at this;exact this,q.bk (by decide),q.gn (by decide),q.way (by decide),q.opn (by decide),q.prt (by decide),q.pin (by decide),q.r0,q.r1,q.r2,q.r3,q.r4 (by decide),q.r5 (by decide),q.r6 (by decide)⟩
theorem zJ.back(h:zJ w B g EL n S a ρ){v:Nat}{k:Int}:zJ (w.setCell ⟨a.gb,v,none⟩ (.int .i64 k)) B g EL n {S with back:=qn S.back v k} a ρ:=
 let q:=h.moveS (r:=2) (qA.cell (a:=⟨a.gb,v,none⟩) h.r2 (.int .i64 k)) (by decide)
 ⟨q.low,q.size,h.len,h.n0,h.n1,q.edges,h.el,q.blk (by decide),q.pl (by decide),by have:=h.bk.set (t:=v) k;grind [K6],q.gn (by decide),q.way (by decide),q.opn (by decide),q.prt (by decide),q.pin (by decide),q.r0,q.r1,q.r2,q.r3,q.r4 (by decide),q.r5 (by decide),q.r6 (by decide)⟩
theorem zJ.gone(h:zJ w B g EL n S a ρ){v k:Nat}{z:Int}(hz:z=(k:Int)):zJ (w.setCell ⟨a.gg,v,none⟩ (.int .i64 z)) B g EL n {S with gone:=qn S.gone v k} a ρ:=
 let q:=h.moveS (r:=3) (qA.cell (a:=⟨a.gg,v,none⟩) h.r3 (.int .i64 z)) (by decide)
 ⟨q.low,q.size,h.len,h.n0,h.n1,q.edges,h.el,q.blk (by decide),q.pl (by decide),q.bk (by decide),by have:=h.gn.set (t:=v) z;subst hz;rw[K6,<-UG]at this;exact this,q.way (by decide),q.opn (by decide),q.prt (by decide),q.pin (by decide),q.r0,q.r1,q.r2,q.r3,q.r4 (by decide),q.r5 (by decide),q.r6 (by decide)⟩
theorem zJ.met(h:zJ w B g EL n S a ρ){k:Nat}{z:Int}(hz:z=(k:Int)):zJ (w.setCell ⟨g,1,none⟩ (.int .i64 z)) B g EL n {S with met:=k} a ρ:=
 let q:=h.moveS (r:=0) (qA.cell (a:=⟨g,1,none⟩) h.r0 (.int .i64 z)) (by decide)
 ⟨q.low,q.size,h.len,h.n0,h.n1,q.edges,h.el,by have:=zm.set h.blk 1 (.int .i64 z);grind,q.pl (by decide),q.bk (by decide),q.gn (by decide),q.way (by decide),q.opn (by decide),q.prt (by decide),q.pin (by decide),q.r0,q.r1,q.r2,q.r3,q.r4 (by decide),q.r5 (by decide),q.r6 (by decide)⟩
theorem zJ.way'(h:zJ w B g EL n S a ρ){N:Nat}{A:Option Addr}{c:Nat}{W:List Nat}(hO:qA w w' ρ 4)(hN:ρ N=4\/w.heap.size<=N)(hA:∀b,(Value.slice A W.length c).ownBlock=some b->qn ρ N 4 b=4)(ho:w'.ownsRow B 3 1 (.slice A W.length c) W.length (qe W)):
  zJ (w'.setCell ⟨g,5,none⟩ (.slice A W.length c)) B g EL n {S with way:=W} {a with Ay:=A,cy:=c} (qn ρ N 4):=by
 have p:=h.moveU hO hN (by decide) (by decide);have hO2:qA w' (w'.setCell ⟨g,5,none⟩ (.slice A W.length c)) (qn ρ N 4) 0:=qA.cell (a:=⟨g,5,none⟩) p.r0 _;have hi:zJ (w'.setCell ⟨g,5,none⟩ (.slice A W.length c)) B g EL n {S with way:=W} {a with Ay:=A,cy:=c} (qn ρ N 4):=
  ⟨p.low,by have:=p.size;simp_all,h.len,h.n0,h.n1,p.edges.below_to (zM.keeps zu.keeps 1) (hO2.low p.low p.size (by decide)) (zn _),h.el,by have:=zm.set (p.blk (by decide)) 5 (.slice A W.length c);exact this,
   Jc (p.pl (by decide)) hO2 (by rw[p.r1];decide),Jc (p.bk (by decide)) hO2 (by rw[p.r2];decide),Jc (p.gn (by decide)) hO2 (by rw[p.r3];decide),(by grind [JK]),JK (p.opn (by decide)) hO2 (fun b hb=>by rw[p.r5 (by decide) b hb];decide),JK (p.prt (by decide)) hO2 (fun b hb=>by rw[p.r6 (by decide) b hb];decide),
   fun i v c hv hc=>(p.pin (by decide) i v c hv hc).move hO2 (by decide) (fun _ _ _=>rfl),p.r0,p.r1,p.r2,p.r3,hA,p.r5 (by decide),p.r6 (by decide)⟩
 exact hi
theorem zJ.opn'(h:zJ w B g EL n S a ρ){N:Nat}{A:Option Addr}{c:Nat}{W:List Nat}(hO:qA w w' ρ 5)(hN:ρ N=5\/w.heap.size<=N)(hA:∀b,(Value.slice A W.length c).ownBlock=some b->qn ρ N 5 b=5)(ho:w'.ownsRow B 3 1 (.slice A W.length c) W.length (qe W)):
  zJ (w'.setCell ⟨g,6,none⟩ (.slice A W.length c)) B g EL n {S with opn:=W} {a with Ao:=A,co:=c} (qn ρ N 5):=by
 have p:=h.moveU hO hN (by decide) (by decide);have hO2:qA w' (w'.setCell ⟨g,6,none⟩ (.slice A W.length c)) (qn ρ N 5) 0:=qA.cell (a:=⟨g,6,none⟩) p.r0 _;have hi:zJ (w'.setCell ⟨g,6,none⟩ (.slice A W.length c)) B g EL n {S with opn:=W} {a with Ao:=A,co:=c} (qn ρ N 5):=
  ⟨p.low,by have:=p.size;simp_all,h.len,h.n0,h.n1,p.edges.below_to (zM.keeps zu.keeps 1) (hO2.low p.low p.size (by decide)) (zn _),h.el,by have:=zm.set (p.blk (by decide)) 6 (.slice A W.length c);exact this,
   Jc (p.pl (by decide)) hO2 (by rw[p.r1];decide),Jc (p.bk (by decide)) hO2 (by rw[p.r2];decide),Jc (p.gn (by decide)) hO2 (by rw[p.r3];decide),JK (p.way (by decide)) hO2 (fun b hb=>by rw[p.r4 (by decide) b hb];decide),(by grind [JK]),JK (p.prt (by decide)) hO2 (fun b hb=>by rw[p.r6 (by decide) b hb];decide),
   fun i v c hv hc=>(p.pin (by decide) i v c hv hc).move hO2 (by decide) (fun _ _ _=>rfl),p.r0,p.r1,p.r2,p.r3,p.r4 (by decide),hA,p.r6 (by decide)⟩
 exact hi
theorem zJ.prt'(h:zJ w B g EL n S a ρ){N:Nat}{A:Option Addr}{c:Nat}{x:List Nat}{u:Value}(hO:qA w w' ρ 6)(hN:ρ N=6\/w.heap.size<=N)(hA:∀b,(Value.slice A (S.parts.length+1) c).ownBlock=some b->qn ρ N 6 b=6)(ho:w'.ownsRow B 27 1 (.slice A (S.parts.length+1) c) (S.parts.length+1) (a.vs++[u]))(hx:mP w B ρ u x):
  zJ (w'.setCell ⟨g,7,none⟩ (.slice A (S.parts.length+1) c)) B g EL n {S with parts:=S.parts++[x]} {a with Ap:=A,cp:=c,vs:=a.vs++[u]} (qn ρ N 6):=by
 have p:=h.moveU hO hN (by decide) (by decide);have hl:a.vs.length=S.parts.length:=by have:=h.prt.1;omega
 have hl2:(S.parts++[x]).length=S.parts.length+1:=by simp
 have hO2:qA w' (w'.setCell ⟨g,7,none⟩ (.slice A (S.parts.length+1) c)) (qn ρ N 6) 0:=qA.cell (a:=⟨g,7,none⟩) p.r0 _;have hx2:=(hx.move hO (by decide) (UF hN)).move hO2 (by decide) (fun _ _ _=>rfl);have hi:zJ (w'.setCell ⟨g,7,none⟩ (.slice A (S.parts.length+1) c)) B g EL n {S with parts:=S.parts++[x]} {a with Ap:=A,cp:=c,vs:=a.vs++[u]} (qn ρ N 6):=
  ⟨p.low,by have:=p.size;simp_all,h.len,h.n0,h.n1,p.edges.below_to (zM.keeps zu.keeps 1) (hO2.low p.low p.size (by decide)) (zn _),h.el,by have:=zm.set (p.blk (by decide)) 7 (.slice A (S.parts.length+1) c);grind,
   Jc (p.pl (by decide)) hO2 (by rw[p.r1];decide),Jc (p.bk (by decide)) hO2 (by rw[p.r2];decide),Jc (p.gn (by decide)) hO2 (by rw[p.r3];decide),JK (p.way (by decide)) hO2 (fun b hb=>by rw[p.r4 (by decide) b hb];decide),JK (p.opn (by decide)) hO2 (fun b hb=>by rw[p.r5 (by decide) b hb];decide),by grind [JK],
   fun i v c hv hc=>by
    dsimp only at hv hc;rcases Xl i S.parts.length with q|q
    ·rw[XO (by omega)]at hv hc;exact(p.pin (by decide) i v c hv hc).move hO2 (by decide) (fun _ _ _=>rfl)
    grind,
   p.r0,p.r1,p.r2,p.r3,p.r4 (by decide),p.r5 (by decide),by grind⟩
 exact hi
theorem zJ.cell_below(h:zJ w' B g EL n S a ρ)(hb:Below B w w')(i:Nat)(v:Value):Below B w (w'.setCell ⟨g,i,none⟩ v):=
 hb.setCell (p:=⟨g,i,none⟩) (by
  rcases Xl g B with q|q
  ·have:=h.low g q;rw[h.r0]at this;cases this
  ·exact q) v
theorem zJ.g_ge(h:zJ w B g EL n S a ρ):B<=g/\B<=a.gp/\B<=a.gb/\B<=a.gg:=by
 have hx:∀x r,ρ x=r->r≠9->B<=x:=fun x r e hr=>by
  rcases Xl x B with q|q
  ·rw[h.low x q]at e;omega
  ·exact q
 exact⟨hx g 0 h.r0 (by decide),hx _ 1 h.r1 (by decide),hx _ 2 h.r2 (by decide),hx _ 3 h.r3 (by decide)⟩
theorem zJ.way_app(h:zJ w B g EL n S a ρ){o:Obj}{v g9 c9:Nat}{w9:World}(hown:w9.ownsRow B 3 1 (.slice (some ⟨g9,0,none⟩) (S.way.length+1) c9) (S.way.length+1) (qe S.way++[.int .i64 (v:Int)]))
  (hgrow:(w.alloc o).grownBy w9 (Value.slice a.Ay S.way.length a.cy).ownBlock) (hor:(Value.slice a.Ay S.way.length a.cy).ownBlock=some g9\/g9=(w.alloc o).heap.size):
  zJ (w9.setCell ⟨g,5,none⟩ (.slice (some ⟨g9,0,none⟩) (S.way.length+1) c9)) B g EL n {S with way:=S.way++[v]} {a with Ay:=some ⟨g9,0,none⟩,cy:=c9} (qn ρ g9 4)/\Below B w (w9.setCell ⟨g,5,none⟩ (.slice (some ⟨g9,0,none⟩) (S.way.length+1) c9)):=by
 have hl:(S.way++[v]).length=S.way.length+1:=by simp
 have hO:=wE h.r4 hgrow;rw[<-TL,<-hl]at hown;have:=h.way' (W:=S.way++[v]) hO (LH h.r4 hor) LG hown;rw[hl]at this;exact⟨this,(hO.low h.low h.size (by decide)).setCell (p:=⟨g,5,none⟩) h.g_ge.1 _⟩
theorem zJ.opn_app(h:zJ w B g EL n S a ρ){o:Obj}{v g9 c9:Nat}{w9:World}(hown:w9.ownsRow B 3 1 (.slice (some ⟨g9,0,none⟩) (S.opn.length+1) c9) (S.opn.length+1) (qe S.opn++[.int .i64 (v:Int)]))
  (hgrow:(w.alloc o).grownBy w9 (Value.slice a.Ao S.opn.length a.co).ownBlock) (hor:(Value.slice a.Ao S.opn.length a.co).ownBlock=some g9\/g9=(w.alloc o).heap.size):
  zJ (w9.setCell ⟨g,6,none⟩ (.slice (some ⟨g9,0,none⟩) (S.opn.length+1) c9)) B g EL n {S with opn:=S.opn++[v]} {a with Ao:=some ⟨g9,0,none⟩,co:=c9} (qn ρ g9 5)/\Below B w (w9.setCell ⟨g,6,none⟩ (.slice (some ⟨g9,0,none⟩) (S.opn.length+1) c9)):=by
 have hl:(S.opn++[v]).length=S.opn.length+1:=by simp
 have hO:=wE h.r5 hgrow;rw[<-TL,<-hl]at hown;have:=h.opn' (W:=S.opn++[v]) hO (LH h.r5 hor) LG hown;rw[hl]at this;exact⟨this,(hO.low h.low h.size (by decide)).setCell (p:=⟨g,6,none⟩) h.g_ge.1 _⟩
theorem zJ.prt_app(h:zJ w B g EL n S a ρ){o:Obj}{g9 c9:Nat}{x:List Nat}{u:Value}{w9:World}(hx:mP w B ρ u x)(hown:w9.ownsRow B 27 1 (.slice (some ⟨g9,0,none⟩) (S.parts.length+1) c9) (S.parts.length+1) (a.vs++[u]))
  (hgrow:(w.alloc o).grownBy w9 (Value.slice a.Ap S.parts.length a.cp).ownBlock) (hor:(Value.slice a.Ap S.parts.length a.cp).ownBlock=some g9\/g9=(w.alloc o).heap.size):
  zJ (w9.setCell ⟨g,7,none⟩ (.slice (some ⟨g9,0,none⟩) (S.parts.length+1) c9)) B g EL n {S with parts:=S.parts++[x]} {a with Ap:=some ⟨g9,0,none⟩,cp:=c9,vs:=a.vs++[u]} (qn ρ g9 6)/\Below B w (w9.setCell ⟨g,7,none⟩ (.slice (some ⟨g9,0,none⟩) (S.parts.length+1) c9)):=by
 have hO:=wE h.r6 hgrow;exact⟨h.prt' hO (LH h.r6 hor) LG hown hx,(hO.low h.low h.size (by decide)).setCell (p:=⟨g,7,none⟩) h.g_ge.1 _⟩
theorem wF{l:List Nat}(hd:l.Nodup)(h:∀v ∈l,v<n):l.length<=n:=by
 have:=Sq (p:=fun _=>true) (n:=n) (ss:=l.map (fun k:Nat=>(k:Int))) (by grind) (by grind [pV])
 grind
theorem zY.lens(h:zY EL n S):S.way.length<=n/\S.opn.length<=n/\S.parts.flatten.length<=n:=by
 have hd:∀{l:List Nat},l.Pairwise (fun a b=>S.place a<S.place b)->l.Nodup:=fun {l} q=>q.imp (by grind);exact⟨wF (hd h.winc) (fun v hv=>h.olt v (h.wsub v hv)),wF (hd h.oinc) h.olt,wF h.nod (fun v hv=>(h.clt v hv).1)⟩
theorem zJ.p_at(h:zJ w B g EL n S a ρ){v:Nat}(hv:v<n):w.cell? ⟨a.gp,v,none⟩=some (.int .i64 (S.place v:Int))/\w.frozen? ⟨a.gp,v,none⟩=false:=by
 have:=h.pl.at_ (t:=v) (by rw[mg];exact hv);rw[Ls _ hv]at this;exact⟨this,zm.free h.pl v⟩
theorem zJ.b_at(h:zJ w B g EL n S a ρ){v:Nat}(hv:v<n):w.cell? ⟨a.gb,v,none⟩=some (.int .i64 (S.back v))/\w.frozen? ⟨a.gb,v,none⟩=false:=by
 have:=h.bk.at_ (t:=v) (by rw[mg];exact hv);rw[Ls _ hv]at this;exact⟨this,zm.free h.bk v⟩
theorem zJ.g_at(h:zJ w B g EL n S a ρ){v:Nat}(hv:v<n):w.cell? ⟨a.gg,v,none⟩=some (.int .i64 (S.gone v:Int))/\w.frozen? ⟨a.gg,v,none⟩=false:=by
 have:=h.gn.at_ (t:=v) (by rw[mg];exact hv);rw[Ls _ hv]at this;exact⟨this,zm.free h.gn v⟩
end
def kv(sup:List Int)(c:Int):Int:=match sup[c.toNat]? with
 |some s=>if 0<=s/\s<c then s else -1
 |none=> -1
theorem I9(sup:List Int)(c:Int)(h0:0<=c)(h1:c<sup.length)(A:Option Addr)(cap B:Nat)(w:World)(hl:sup.length<=1048576)(h:jh w B A sup):
  Calls Tryz.prog 196 #[.slice A sup.length cap,.int .i64 c] w fun e w'=>e= .returned (.int .i64 (kv sup c))/\w=w':=by
 obtain⟨K,rfl⟩:=Xj h0;have hlt:K<sup.length:=by omega
 have hs0:=Xc hlt;obtain⟨ad,rfl,hab,hc⟩:=h K _ hs0;have E:=zH (show kv sup (K:Int)=if 0<=sup[K]/\sup[K]<(K:Int)then sup[K]else -1 by unfold kv;grind);clear hs0 h;generalize sup[K]=s at*
 by_cases g:0<=s/\s<(K:Int)
 ·have E2:=zH (show kv sup (K:Int)=s by rw[E.out,Xb g]);clear E;obtain⟨g0,g1⟩:=g;go_enter Tryz.func196,Tryz.ntmps196;go_wp2_with fail
  go_ret;rw[E2.out];simp_all
 ·have E2:=zH (show kv sup (K:Int)= -1 by rw[E.out,Xa g]);clear E;by_cases g0:0<=s
  ·have g1:¬s<(K:Int):=by omega
   clear g;go_enter Tryz.func196,Tryz.ntmps196;go_wp2_with fail
   go_ret;rw[E2.out];simp_all
  ·clear g;go_enter Tryz.func196,Tryz.ntmps196;go_wp2_with fail
   go_ret;rw[E2.out];simp_all
def Yw(sup:List Int)(c:Int):Bool:=decide (0<=c/\c<sup.length)
theorem dX(sup:List Int)(c:Int)(A:Option Addr)(cap:Nat)(w:World)(hl:sup.length<=1048576):
  Calls Tryz.prog 195 #[.slice A sup.length cap,.int .i64 c] w fun e w'=>e= .returned (.bool (Yw sup c))/\w=w':=by
 by_cases h0:0<=c
 ·by_cases h1:c<sup.length
  ·have E:=zH (show Yw sup c=true from Xi ⟨h0,h1⟩);go_enter Tryz.func195,Tryz.ntmps195;go_wp2_with fail
   go_ret;rw[E.out];simp_all
  ·have E:=zH (show Yw sup c=false from Xf (by omega));go_enter Tryz.func195,Tryz.ntmps195;go_wp2_with fail
   go_ret;rw[E.out];simp_all
 ·have E:=zH (show Yw sup c=false from Xf (by omega));go_enter Tryz.func195,Tryz.ntmps195;go_wp2_with fail
  go_ret;rw[E.out];simp_all
theorem yM(sup:List Int)(c:Int): -1<=kv sup c/\(0<=c->kv sup c<c):=by
 unfold kv
 grind
theorem Am{sup:List Int}{c:Int}(h0:0<=c)(h1:c<sup.length):zz sup c=c::zz sup (kv sup c):=by
 obtain⟨s,hs⟩:=Ew h0 h1;rw[yR h0 hs];unfold kv;rw[hs];dsimp only;by_cases g:s<c
 ·rw[Xb g];by_cases g0:0<=s
  ·grind
  ·rw[Xa (by omega),lV (.inl (by omega)),lV (.inl (by omega))]
 ·rw[Xa g,Xa (by omega),lV (.inl (by omega))]
theorem DL{sup:List Int}{c:Int}(h:Yw sup c=true):0<=c/\c<sup.length:=XD h
theorem Dw{sup:List Int}{c:Int}(h:¬Yw sup c=true):c<0\/(sup.length:Int)<=c:=by
 unfold Yw at h
 grind
theorem LY{l:List Int}{n:Int}(h:n ∉l):qb l n=false:=Xf h
theorem R3(sup:List Int)(a b:Int)(A:Option Addr)(cap B:Nat)(w:World)(hl:sup.length<=1048576)(hB:B<=w.heap.size)(h:jh w B A sup):
  Calls Tryz.prog 181 #[.slice A sup.length cap,.int .i64 a,.int .i64 b] w fun e w'=>e= .returned (.bool (qb (zz sup a) b))/\Below w.heap.size w w':=by
 have HS:=zH h;clear h;by_cases ha:Yw sup a=true
 ·by_cases hb:Yw sup b=true
  ·obtain⟨a0,a1⟩:=DL ha;obtain⟨b0,b1⟩:=DL hb;have HA:=zH ha;have HB:=zH hb;clear ha hb;go_enter Tryz.func181,Tryz.ntmps181;go_wp2_with(first
    |(go_at_call 195;(with_reducible refine(dX sup a A cap w hl).mono ?_);rintro e w' ⟨he,rfl⟩;rw[HA.out]at he;subst he)
    |(go_at_call 195;(with_reducible refine(dX sup b A cap w hl).mono ?_);rintro e w' ⟨he,rfl⟩;rw[HB.out]at he;subst he))
   go_loop [1] (fun i=>∃c:Int,i= .int .i64 c/\ -1<=c/\c<sup.length/\qb (zz sup a) b=qb (zz sup c) b) (fun i=>(intOf i+1).toNat)
   case atStart=>grind
   case round=>
    obtain⟨c,rfl,c0,c1,hn⟩:=hrel;have HN:=zH hn;clear hn;by_cases hcb:b<c
    ·have R:=zH (show qb (zz sup a) b=qb (zz sup (kv sup c)) b by
      rw[HN.out,Am (by omega) c1];unfold qb
      grind)
     have hc0:0<=c:=by omega
     have hs:=yM sup c;clear HN;go_wp2_with(go_at_call 196;(with_reducible refine(I9 sup c hc0 c1 A cap B w hl HS.out).mono ?_);rintro e w' ⟨rfl,rfl⟩)
     go_round
     case rel=>exact⟨kv sup c,rfl,hs.1,by omega,R.out⟩
     case measure=>have:=hs.2 hc0;simp[intOf];omega
    ·by_cases hc:c=b
     ·have R:=zH (show qb (zz sup a) b=true by rw[HN.out,hc];exact eQ.mpr (yX b0 b1));clear HN;go_wp2_with fail
      go_ret;rw[R.out];exact⟨by simp_all,zb _ _⟩
     ·have R:=zH (show qb (zz sup a) b=false by rw[HN.out];exact LY (fun g=>by have:=Jb g;omega));clear HN;go_wp2_with fail
      go_ret;rw[R.out];exact⟨by first|rfl|simp[hc],zb _ _⟩
  ·have HA:=zH ha;have HB:=zH (show Yw sup b=false by simpa using hb);have R:=zH (show qb (zz sup a) b=false from LY (fun g=>by have:=Jb g;have:=Dw hb;omega));clear ha hb;go_enter Tryz.func181,Tryz.ntmps181;go_wp2_with(first
    |(go_at_call 195;(with_reducible refine(dX sup a A cap w hl).mono ?_);rintro e w' ⟨he,rfl⟩;rw[HA.out]at he;subst he)
    |(go_at_call 195;(with_reducible refine(dX sup b A cap w hl).mono ?_);rintro e w' ⟨he,rfl⟩;rw[HB.out]at he;subst he))
   go_ret;rw[R.out];exact⟨rfl,zb _ _⟩
 ·have HA:=zH (show Yw sup a=false by simpa using ha);have R:=zH (show qb (zz sup a) b=false from LY (fun g=>by have:=Jb g;have:=Dw ha;omega));clear ha;go_enter Tryz.func181,Tryz.ntmps181;go_wp2_with(go_at_call 195;(with_reducible refine(dX sup a A cap w hl).mono ?_);rintro e w' ⟨he,rfl⟩;rw[HA.out]at he;subst he)
  go_ret;rw[R.out];exact⟨rfl,zb _ _⟩
theorem KV(k n cap:Nat)(ad:Addr)(s:Int)(A1 A2:Option Addr)(n1 c1 n2 c2:Nat)(w:World)(hk:k<n)(hn:n<=9223372036854775807)(hab:ad.block<w.heap.size)
  (r0:w.cell? (ad.add (k*3))=some (.int .i64 s)) (r1:w.cell? (zc (ad.add (k*3)) 1)=some (.slice A1 n1 c1)) (r2:w.cell? (zc (ad.add (k*3)) 2)=some (.slice A2 n2 c2)):
  Calls Tryz.prog 205 #[.slice (some ad) n cap,.int .i64 k] w fun e w'=>e= .returned (.tuple #[.agg #[.int .i64 s,.slice A1 n1 c1,.slice A2 n2 c2],.bool true])/\Below w.heap.size w w':=by
 have HW:=zH (zk (w:=w) (o:=(.cells #[.int .i64 0,.slice none 0 0,.slice none 0 0] 60)));have r0:=(HW.out.cell (p:=ad.add (k*3)) (by exact zZ hab)).trans r0;have r1:=(HW.out.cell (p:=zc (ad.add (k*3)) 1) (by show(ad.add _).block<_;rw[zC];exact hab)).trans r1;have r2:=(HW.out.cell (p:=zc (ad.add (k*3)) 2) (by show(ad.add _).block<_;rw[zC];exact hab)).trans r2;go_enter Tryz.func205,Tryz.ntmps205;go_wp2
 exact Xk (v:= .tuple #[.agg #[.int .i64 s,.slice A1 n1 c1,.slice A2 n2 c2],.bool true]) (by simp[results,Tryz.results205,go_sem]) rfl ⟨rfl,zk⟩
theorem PZ{P:Prop}(h:P:=by
 go_enter Tryz.func205,Tryz.ntmps205;go_wp2
 exact Xk (v:= .tuple #[.agg #[.int .i64 0,.slice none 0 0,.slice none 0 0],.bool false]) (by simp[results,Tryz.results205,go_sem]) rfl ⟨rfl,(zk).alloc (by simp) _⟩):P:=h
theorem WS(k:Int)(n cap:Nat)(A:Option Addr)(w:World)(hn:n<=9223372036854775807)(hk:k<0\/(n:Int)<=k):
  Calls Tryz.prog 205 #[.slice A n cap,.int .i64 k] w fun e w'=>e= .returned (.tuple #[.agg #[.int .i64 0,.slice none 0 0,.slice none 0 0],.bool false])/\Below w.heap.size w w':=by
 by_cases h0:k<0
 ·clear hk;exact PZ
 ·have h1:(n:Int)<=k:=by omega
  have h2:0<=k:=by omega
  clear hk h0;exact PZ
theorem qev(k n cap:Nat)(ad:Addr)(z:Int)(w:World)(hk:k<n)(hn:n<=9223372036854775807)(r0:w.cell? (ad.add k)=some (.int .i64 z)):
  Calls Tryz.prog 206 #[.slice (some ad) n cap,.int .i64 k] w fun e w'=>e= .returned (.tuple #[.int .i64 z,.bool true])/\w=w':=by
 go_enter Tryz.func206,Tryz.ntmps206;go_wp2
 go_ret2
 exact⟨rfl,rfl⟩
theorem WQ(k:Int)(n cap:Nat)(A:Option Addr)(w:World)(hn:n<=9223372036854775807)(hk:k<0\/(n:Int)<=k):
  Calls Tryz.prog 206 #[.slice A n cap,.int .i64 k] w fun e w'=>e= .returned (.tuple #[.int .i64 0,.bool false])/\Below w.heap.size w w':=by
 by_cases h0:k<0
 ·clear hk;go_enter Tryz.func206,Tryz.ntmps206;go_wp2
  go_ret2
  exact⟨rfl,by first|exact zb _ _|exact zk⟩
 ·have h1:(n:Int)<=k:=by omega
  have h2:0<=k:=by omega
  clear hk h0;go_enter Tryz.func206,Tryz.ntmps206;go_wp2
  go_ret2
  exact⟨rfl,by first|exact zb _ _|exact zk⟩
theorem P8(cl:List zW)(k:Nat)(hk:k<cl.length)(A:Option Addr)(cap:Nat)(w:World)(h:zd vw 3 w w.heap.size A cap cl):
  Calls Tryz.prog 207 #[.slice A cl.length cap,.int .i64 k] w fun e w'=>e= .returned (.bool true)/\Below w.heap.size w w':=by
 have h1:=h.le;have h2:=h.cap;obtain⟨ad,rfl,hab,r0,⟨A1,k1,r1,_⟩,⟨A2,k2,r2,_⟩,_⟩:=h.row.at_ hk;clear h;have hn:cl.length<=9223372036854775807:=by omega
 generalize cl[k]=x at*
 generalize cl.length=n at*
 go_enter Tryz.func207,Tryz.ntmps207;go_wp2_with(go_at_call 205;(with_reducible refine(KV k n cap ad _ _ _ _ _ _ _ w hk hn hab r0 r1 r2).mono ?_);rintro e w' ⟨rfl,hb⟩;have HB:=zH hb;clear hb)
 go_ret;exact⟨rfl,by first|exact HB.out|exact HB.out.alloc HB.out.size _⟩
theorem R5(cl:List zW)(k:Int)(hk:k<0\/(cl.length:Int)<=k)(A:Option Addr)(cap:Nat)(w:World)(h:zd vw 3 w w.heap.size A cap cl):
  Calls Tryz.prog 207 #[.slice A cl.length cap,.int .i64 k] w fun e w'=>e= .returned (.bool false)/\Below w.heap.size w w':=by
 have h1:=h.le;have h2:=h.cap;have hn:cl.length<=9223372036854775807:=by omega
 clear h;generalize cl.length=n at*
 go_enter Tryz.func207,Tryz.ntmps207;go_wp2_with(go_at_call 205;(with_reducible refine(WS k n cap A w hn hk).mono ?_);rintro e w' ⟨rfl,hb⟩;have HB:=zH hb;clear hb)
 go_ret;exact⟨rfl,by first|exact HB.out|exact HB.out.alloc HB.out.size _⟩
theorem sup_in{sup:List Int}{c s:Int}(h0:0<=c)(hs:sup[c.toNat]? =some s):(¬s=c/\qb (zz sup c) s=true)↔(0<=s/\s<c):=by
 have h1:c<sup.length:=by
  rcases Xl c.toNat sup.length with g|g
  ·omega
  ·rw[XE g]at hs;cases hs
 rw[eQ];constructor
 ·rintro⟨hn,hm⟩;have:=Jb hm;omega
 ·rintro⟨g0,g1⟩;refine⟨by omega,?_⟩;rw[yR h0 hs,Xb g1];exact XY _ (yX g0 (by omega))
theorem qj2{sup:List Int}{c s:Int}(hs:sup[c.toNat]? =some s):kv sup c=if 0<=s/\s<c then s else -1:=by
 unfold kv;rw[hs]
theorem q9r(sup:List Int)(c:Int)(h0:0<=c)(h1:c<sup.length)(A:Option Addr)(cap B:Nat)(w:World)(hl:sup.length<=1048576)(hB:B<=w.heap.size)(h:jh w B A sup):
  Calls Tryz.prog 208 #[.slice A sup.length cap,.int .i64 c] w fun e w'=>e= .returned (.int .i64 (kv sup c))/\Below w.heap.size w w':=by
 obtain⟨K,rfl⟩:=Xj h0;have hlt:K<sup.length:=by omega
 have hs0:=Xc hlt;have HS:=zH h;obtain⟨ad,rfl,hab,hc⟩:=h K _ hs0;have E1:=zH (qj2 (sup:=sup) (c:=(K:Int)) (s:=sup[K]) (by rw[Xo];exact hs0));have E2:=zH (sup_in (sup:=sup) (c:=(K:Int)) (s:=sup[K]) h0 (by rw[Xo];exact hs0));clear hs0 h;generalize sup[K]=s at*
 by_cases g:s=(K:Int)
 ·have E:=zH (show kv sup (K:Int)= -1 by rw[E1.out,Xa (by omega)]);clear E1 E2;subst g;go_enter Tryz.func208,Tryz.ntmps208;go_wp2_with fail
  go_ret;rw[E.out];exact⟨rfl,zb _ _⟩
 ·have hne:((s:Int) !=(K:Int))=true:=by simpa using g
  obtain⟨r,hr⟩:=zj (qb (zz sup (K:Int)) s);have R:=zH hr;have E:=zH (show kv sup (K:Int)=if r=true then s else -1 by
   rw[E1.out,<-hr];by_cases q:0<=s/\s<(K:Int)
   ·rw[Xb q,Xb (E2.out.mpr q).2]
   ·rw[Xa q,Xa (fun x=>q (E2.out.mp ⟨g,x⟩))])
  clear E1 E2 hr g;cases r;all_goals
   go_enter Tryz.func208,Tryz.ntmps208;go_wp2_with(go_at_call 181;(with_reducible refine(R3 sup (K:Int) s (some ad) cap B w hl hB HS.out).mono ?_);rintro e w' ⟨he,hb⟩;rw[R.out]at he;subst he)
   go_ret;rw[E.out];exact⟨by simp,hb⟩
theorem KR{sup:List Int}{c:Int}{n:Nat}(HN:Hid (sup.length=n))(h0:0<=c)(h1:c<sup.length)(A:Option Addr)(cap B:Nat)(w:World)(hl:sup.length<=1048576)(hB:B<=w.heap.size)(h:jh w B A sup):
  Calls Tryz.prog 208 #[.slice A n cap,.int .i64 c] w fun e w'=>e= .returned (.int .i64 (kv sup c))/\Below w.heap.size w w':=by
 obtain rfl:=HN.out;exact q9r sup c h0 h1 A cap B w hl hB h
theorem q4d{sup:List Int}{c k:Nat}(hc:c<k)(hk:k<sup.length):qb (zz sup (k:Int)) c=qb (jF sup c k) (kv sup k):=by
 rw[XQ,eQ,eQ,yQ,eQ,Am (by omega) (by omega),XZ];have hb:=yM sup (k:Int);constructor
 ·rintro(h|h)
  ·omega
  ·have hr:=Jb h;exact⟨by omega,by have:=hb.2 (by omega);omega,h⟩
 ·rintro⟨_,_,h⟩;exact .inr h
theorem Tm{l:List Int}{x:Int}{n:Nat}{b:Bool}{A:Option Addr}{cap:Nat}{w:World}(HN:Hid (l.length=n))(HB:Hid (qb l x=b))(hl:n<=1048576)(h:zw w w.heap.size A (l.map (Value.int .i64)))(hs:l.Pairwise (· < ·)):
  Calls Tryz.prog 118 #[.slice A n cap,.int .i64 x] w (q0g b w):=by
 obtain rfl:=HN.out;have H:=Ry l x A cap w hl h hs;rw[HB.out]at H;exact H
set_option maxHeartbeats 1600000 in
theorem q9p(m:za)(c:Int)(h:zh)(w:World)(H:zr w w.heap.size h m)(hn:m.classes.length<=1000):
  Calls Tryz.prog 198 #[zv h m,.int .i64 c] w (ZR (YS m.classes c) w):=by
 obtain⟨i0,hi,hz0,hz1,hz2⟩:=info_parts ZL;have HW:=zH (zk (w:=w) (o:=(ze h m)));have zO:=zH (H.now HW.out);have HBX:=zH (qd w h m);have HZ:Hid (w.heap.size<(w.alloc (ze h m)).heap.size):=zH (by simp);have HS:=zH (eB zO.out.classes.row);have hsl:(zy m.classes).length=m.classes.length:=kE _;have hle:=H.classes.le;have hcap:=H.classes.cap;have HE:=zH (show YS m.classes c=jF (zy m.classes) c m.classes.length from rfl);obtain⟨sup,oC⟩:=zj (zy m.classes);rw[oC]at hsl HS HE;clear oC H;by_cases hc:0<=c/\c<m.classes.length
 ·obtain⟨c0,c1⟩:=hc;obtain⟨i,rfl⟩:=Xj c0;have hil:i<m.classes.length:=by omega
  have qlj:=zH (q4c (sup:=sup) (c:=i) (by omega));have hsl1:sup.length<=1048576:=by omega
  have Zu:=zH hsl;clear hsl c0 c1;go_enter Tryz.func198,Tryz.ntmps198;go_upto_region 1 with fail
  generalize w.alloc (ze h m)=w1 at*
  obtain⟨q0,q1,q2,q3,q4,q5,q6⟩:=HBX.out;go_wp2_with(go_at_call 207;(with_reducible refine(P8 m.classes i hil h.A0 h.c0 w1 zO.out.classes).mono ?_);rintro e w2 ⟨rfl,hb⟩;have HB2:=zH hb;clear hb)
  clear q0 q1 q2 q3 q4 q5 q6;have hs2:=HB2.out.size;go_loopw [5,6] (fun v s6 wr=>∃k:Nat,i<k/\k<=m.classes.length/\s6= .int .i64 k/\Hid (wr.ownsRow w1.heap.size 3 1 v (jF sup (i:Int) k).length ((jF sup (i:Int) k).map (Value.int .i64)))/\Hid (Below w1.heap.size w1 wr)) (fun _ s6 _=>m.classes.length - (intOf s6).toNat)
  case atStart=>
   refine⟨i+1,by omega,by omega,by go_num,zH ?_,zH (HB2.out.alloc hs2 _)⟩;rw[qlj.out];exact⟨rfl,.inr ⟨w2.heap.size,1,#[.int .i64 (i:Int)],rfl,hs2,Xz _ _,zn _,by unfold maxLen;omega,rfl,rfl⟩⟩
  case round=>
   obtain⟨k,hik,hk,rfl,HO,HX⟩:=hrel;obtain⟨q0,q1,q2,q3,q4,q5,q6⟩:=HBX.out.keep HX.out HZ.out;have hbl:=uN sup (i:Int) k;by_cases hlt:k<m.classes.length
   ·obtain⟨b,hb⟩:=zj (qb (zz sup k) (i:Int));have HST:=zH (show jF sup (i:Int) (k+1)=if b=true then jF sup (i:Int) k++[(k:Int)]else jF sup (i:Int) k by rw[<-hb];rfl);have hks:k<sup.length:=by rw[Zu.out];exact hlt
    have hbn:=q4d hik hks;rw[hb]at hbn;have oL:=zH hbn.symm;have QK:=zH (Ir sup (i:Int) k);clear hb hbn;have Gv:=zH ((HS.out.below_to HX.out (zn _)):jh wr w1.heap.size h.A0 sup);generalize jF sup (i:Int) k=L at*
    have hsz:=HX.out.size;have hk0:(0:Int)<=k:=by omega
    have hk1:(k:Int)<sup.length:=by omega
    have Qx:L.length<=1048576:=by omega
    obtain⟨Av,cv,rfl,hl0,g1,g2⟩:=Ji HO.out;have qN:=zH hl0;clear hl0;cases b
    ·have e1:jF sup (i:Int) (k+1)=L:=HST.out;have tV:=zH e1;clear e1 HST;go_wp2_with(first
      |(go_at_call 208;(with_reducible refine(KR Zu hk0 hk1 h.A0 h.c0 w1.heap.size wr hsl1 hsz Gv.out).mono ?_);rintro e w2 ⟨rfl,hb⟩;have HX2:=zH (HX.out.trans (hb.mono hsz));have qm:=kpO HO hb;have HL2:=zH ((qN.out.below hb).more hb.size);have hsz2:=HX2.out.size;clear hb)
      |(go_at_call 118;(with_reducible refine(Tm (zH rfl) oL Qx HL2.out QK.out).mono ?_);rintro e w3 ⟨p,rfl,hb⟩;have zp:=zH (HX2.out.trans (hb.mono hsz2));have qa:=kpO qm hb;have F6:=zp.out.size;clear hb;obtain⟨q0,q1,q2,q3,q4,q5,q6⟩:=HBX.out.keep zp.out HZ.out))
     go_roundw;case rel=>exact⟨k+1,by omega,by omega,by go_num,zH (by rw[tV.out];exact qa.out),zp⟩
     case measure=>simp[intOf];omega
    ·have e1:jF sup (i:Int) (k+1)=L++[(k:Int)]:=HST.out;have tV:=zH e1;clear e1 HST;go_wp2_with(first
      |(go_at_call 208;(with_reducible refine(KR Zu hk0 hk1 h.A0 h.c0 w1.heap.size wr hsl1 hsz Gv.out).mono ?_);rintro e w2 ⟨rfl,hb⟩;have HX2:=zH (HX.out.trans (hb.mono hsz));have qm:=kpO HO hb;have HL2:=zH ((qN.out.below hb).more hb.size);have hsz2:=HX2.out.size;clear hb)
      |(go_at_call 118;(with_reducible refine(Tm (zH rfl) oL Qx HL2.out QK.out).mono ?_);rintro e w3 ⟨p,rfl,hb⟩;have zp:=zH (HX2.out.trans (hb.mono hsz2));have qa:=kpO qm hb;have F6:=zp.out.size;clear hb;obtain⟨q0,q1,q2,q3,q4,q5,q6⟩:=HBX.out.keep zp.out HZ.out)
      |(at_builtin;refine wpList_append_own _ rfl _ _ 27 rfl w1.heap.size 3 i0 (.int .i64 0) 1 8 Tryz.underlying27 hi hz0 hz1 hz2 rfl (by decide) _ _ _ rfl (qa.out.alloc _) ⟨_,0,none⟩ 1 1 [.int .i64 (k:Int)] rfl rfl (AV _ _) (AC _) (by unfold maxLen;omega) (by omega) (by simp;omega) ?_;intro v' w4 hown' hgrow _;have hR:=o6 qa.out F6 zp.out hown' hgrow;have HO4:=zH hR.1;have HX4:=zH hR.2;clear hown' hgrow hR))
     go_roundw;case rel=>exact⟨k+1,by omega,by omega,by go_num,zH (by rw[tV.out];exact HO4.out),HX4⟩
     case measure=>simp[intOf];omega
   ·obtain rfl:k=m.classes.length:=by omega
    go_wp2_with fail
    go_ret;refine⟨_,rfl,?_,zD HW HX⟩;rw[HE.out];exact js HO.out HW.out.size
 ·have hno:c<0\/(m.classes.length:Int)<=c:=by omega
  have HE2:=zH (show YS m.classes c=[]by rw[HE.out];exact q9x (by omega) _ (by omega));clear hc hsl;go_enter Tryz.func198,Tryz.ntmps198;go_upto_region 1 with fail
  generalize w.alloc (ze h m)=w1 at*
  obtain⟨q0,q1,q2,q3,q4,q5,q6⟩:=HBX.out;go_wp2_with(go_at_call 207;(with_reducible refine(R5 m.classes c hno h.A0 h.c0 w1 zO.out.classes).mono ?_);rintro e w2 ⟨rfl,hb⟩;have HB2:=zH hb;clear hb)
  go_ret;refine⟨_,rfl,?_,zD HW HB2⟩;rw[HE2.out];exact XM _ _ _ _
section
variable{m:za}{h:zh}{w0 w:World}{c:Int}
theorem qeo{L:List Int}(HI:Hid (zr w0 w0.heap.size h m))(HX:Hid (Below w0.heap.size w0 w))(HL:Hid (YS m.classes c=L))(hn:m.classes.length<=1000):
  Calls Tryz.prog 198 #[zv h m,.int .i64 c] w (ZR L w):=by
 have H:=q9p m c h w (HI.out.now HX.out) hn;rw[HL.out]at H;exact H
end
theorem qea(m:za)(c n:Int)(h:zh)(w:World)(H:zr w w.heap.size h m):
  Calls Tryz.prog 194 #[zv h m,.int .i64 c,.int .i64 n] w (EU (kP m.classes c n) w):=by
 have HW:=zH (zk (w:=w) (o:=(ze h m)));have zO:=zH (H.now HW.out);have HBX:=zH (qd w h m);have hle:=H.classes.le;have hcap:=H.classes.cap;have hn63:m.classes.length<=9223372036854775807:=by omega
 clear H hle hcap;by_cases hc:0<=c/\c<m.classes.length
 ·obtain⟨c0,c1⟩:=hc;obtain⟨i,rfl⟩:=Xj c0;have hi:i<m.classes.length:=by omega
  obtain⟨ad,e0,hab,s0,⟨A1,k1,s1,hs1⟩,⟨A2,k2,s2,hs2⟩,_⟩:=zO.out.classes.row.at_ hi;have HE:=zH e0;clear e0;have l1:=hs2.le;have l2:=hs2.cap;have MC:m.classes[i].slots.length<=9223372036854775807:=by omega
  have jD:=zH hs2;clear hs1 hs2;by_cases hnn:0<=n/\n<m.classes[i].slots.length
  ·obtain⟨n0,n1⟩:=hnn;obtain⟨j,rfl⟩:=Xj n0;have hj:j<m.classes[i].slots.length:=by omega
   rw[IX hi hj];obtain⟨Ye,rfl,yn,z0⟩:=jD.out.row.at_ hj;clear jD;rw[Xq]at z0;generalize m.classes[i].slots[j]=f at*
   generalize m.classes[i]=x at*
   go_enter Tryz.func194,Tryz.ntmps194;go_upto_region 1 with fail
   generalize w.alloc (ze h m)=w1 at*
   obtain⟨q0,q1,q2,q3,q4,q5,q6⟩:=HBX.out;rw[HE.out]at q0;have HZ:Hid (∀W,Below w1.heap.size w1 W->W.cell? (Ye.add j)=some (.int .i64 f)):=zH (fun W hW=>(hW.cell (p:=Ye.add j) (by exact zZ yn)).trans z0);go_upto_region 2 with(go_at_call 205;(with_reducible refine(KV i m.classes.length h.c0 ad _ _ _ _ _ _ _ w1 hi hn63 hab s0 s1 s2).mono ?_);rintro e w2 ⟨rfl,hb⟩;have HB2:=zH hb;clear hb)
   have z2:=HZ.out _ (HB2.out.alloc HB2.out.size (.cells #[.int .i64 x.sup,.slice A1 x.fields.length k1,.slice (some Ye) x.slots.length k2] 60));go_wp2_with(go_at_call 206;(with_reducible refine(qev j x.slots.length k2 Ye f _ hj MC z2).mono ?_);rintro e w3 ⟨rfl,rfl⟩)
   go_ret2
   exact⟨rfl,HW.out.trans ((HB2.out.alloc HB2.out.size _).mono HW.out.size)⟩
  ·rw[PQ hi (by omega)];have hno:n<0\/(m.classes[i].slots.length:Int)<=n:=by omega
   clear hnn jD;generalize m.classes[i]=x at*
   go_enter Tryz.func194,Tryz.ntmps194;go_upto_region 1 with fail
   generalize w.alloc (ze h m)=w1 at*
   obtain⟨q0,q1,q2,q3,q4,q5,q6⟩:=HBX.out;rw[HE.out]at q0;go_upto_region 2 with(go_at_call 205;(with_reducible refine(KV i m.classes.length h.c0 ad _ _ _ _ _ _ _ w1 hi hn63 hab s0 s1 s2).mono ?_);rintro e w2 ⟨rfl,hb⟩;have HB2:=zH hb;clear hb)
   go_wp2_with(go_at_call 206;(with_reducible refine(WQ n x.slots.length k2 A2 _ MC hno).mono ?_);rintro e w3 ⟨rfl,hb⟩;have HB3:=zH hb;clear hb)
   go_ret2
   exact⟨rfl,HW.out.trans (((HB2.out.alloc HB2.out.size _).trans (HB3.out.mono (HB2.out.alloc HB2.out.size _).size)).mono HW.out.size)⟩
 ·have hno:c<0\/(m.classes.length:Int)<=c:=by omega
  rw[Pm hno];have hz:n<0\/((0:Nat):Int)<=n:=by omega
  clear hc;go_enter Tryz.func194,Tryz.ntmps194;go_upto_region 1 with fail
  generalize w.alloc (ze h m)=w1 at*
  obtain⟨q0,q1,q2,q3,q4,q5,q6⟩:=HBX.out;go_upto_region 2 with(go_at_call 205;(with_reducible refine(WS c m.classes.length h.c0 h.A0 w1 hn63 hno).mono ?_);rintro e w2 ⟨rfl,hb⟩;have HB2:=zH hb;clear hb)
  go_wp2_with(go_at_call 206;(with_reducible refine(WQ n 0 0 none _ (by omega) hz).mono ?_);rintro e w3 ⟨rfl,hb⟩;have HB3:=zH hb;clear hb)
  go_ret2
  exact⟨rfl,HW.out.trans (((HB2.out.alloc HB2.out.size _).trans (HB3.out.mono (HB2.out.alloc HB2.out.size _).size)).mono HW.out.size)⟩
theorem Lh{m:za}{h:zh}{w0 w:World}{c n:Int}{o:Option Int}(HI:Hid (zr w0 w0.heap.size h m))(HX:Hid (Below w0.heap.size w0 w))(HO:Hid (kP m.classes c n=o)):
  Calls Tryz.prog 194 #[zv h m,.int .i64 c,.int .i64 n] w (EU o w):=by
 have H:=qea m c n h w (HI.out.now HX.out);rw[HO.out]at H;exact H
theorem Ko(E:Option Addr)(n c:Nat)(x:Int)(w:World)(r:Bool)(hr:(decide (0<=x)&& decide (x<n))=r):
  Calls Tryz.prog 116 #[.slice E n c,.int .i64 x] w fun e w'=>e= .returned (.bool r)/\Below w.heap.size w w':=by
 have HR:=zH hr;by_cases h0:0<=x
 ·by_cases h1:x<n
  ·go_enter Tryz.func116,Tryz.ntmps116;go_wp2
   go_ret;exact⟨by rw[<-HR.out,Xi h0,Xi h1];rfl,zb _ _⟩
  ·go_enter Tryz.func116,Tryz.ntmps116;go_wp2
   go_ret;exact⟨by rw[<-HR.out,Xi h0,Xf (by omega)];rfl,zb _ _⟩
 ·go_enter Tryz.func116,Tryz.ntmps116;go_wp2
  go_ret;exact⟨by rw[<-HR.out,Xf (by omega),Bool.false_and];rfl,zb _ _⟩
set_option maxHeartbeats 1600000 in
theorem Td(B g n v:Nat)(EL:List (List Int))(S:Wk)(a:fC)(ρ:Nat->Nat)(w:World)(h:zJ w B g EL n S a ρ)(hv:v<n)(hm:S.met<n)(hw:S.way.length<=n)(ho:S.opn.length<=n):
  Calls Tryz.prog 155 #[.pointer (some ⟨g,0,none⟩),.int .i64 (v:Int)] w fun e w'=>e= .returned (.tuple #[])/\(∃a' ρ',zJ w' B g EL n (S.meet v) a' ρ')/\Below B w w':=by
 obtain⟨met,place,back,gone,way,opn,parts⟩:=S;obtain⟨gp,gb,gg,E,ce,Ay,cy,Ao,co,Ap,cp,vs⟩:=a;dsimp only at hm hw ho;have HI:=zH h;have hn1:=h.n1;have hge:=h.g_ge;obtain⟨hg0,hg1,hg2,hg3⟩:=hge;have q1:=h.blk.cells 1 _ rfl;have f1:=h.blk.free 1;have H1:=zH (h.met (k:=met+1) (z:=(met:Int)+1) (by omega));have X1:=zH ((zb B w).setCell (p:=⟨g,1,none⟩) hg0 (.int .i64 ((met:Int)+1)));dsimp only at q1 f1 H1 hg1 hg2 hg3;clear h;obtain⟨i0,hi,hz0,hz1,hz2⟩:=info_parts ZL;go_enter Tryz.func155,Tryz.ntmps155;go_upto_region 1 with fail
 generalize w.setCell ⟨g,1,none⟩ (.int .i64 ((met:Int)+1))=w1 at*
 clear q1 f1;have q1:=H1.out.blk.cells 1 _ rfl;have q2:=H1.out.blk.cells 2 _ rfl;have q3:=H1.out.blk.cells 3 _ rfl;obtain⟨c1,fp⟩:=H1.out.p_at hv;obtain⟨c2,fb⟩:=H1.out.b_at hv;dsimp only at q1 q2 q3 c1 c2 fp fb;have H2:=zH (H1.out.place (v:=v) (k:=met+1) (z:=(met:Int)+1) (by omega));obtain⟨c3,f3⟩:=H2.out.b_at hv;dsimp only at H2 c3 f3;go_region
 have H3:=zH ((H2.out.back (v:=v) (k:=(met:Int)+1)).keep (zb _ _).drew);have X3:=zH ((X1.out.setCell (p:=⟨gp,v,none⟩) hg1 (.int .i64 ((met:Int)+1))).setCell (p:=⟨gb,v,none⟩) hg2 (.int .i64 ((met:Int)+1))).drew;generalize((w1.setCell ⟨gp,v,none⟩ (.int .i64 ((met:Int)+1))).setCell ⟨gb,v,none⟩ (.int .i64 ((met:Int)+1))).drew=w3 at*
 clear q1 q2 q3 c1 fp c2 fb c3 f3 H2 H1 X1;have q5:=H3.out.blk.cells 5 _ rfl;dsimp only at q5 H3;have hz3:=H3.out.size;have oH:Hid (w3.ownsRow B 3 1 (.slice Ay way.length cy) way.length (qe way)):=zH H3.out.way;go_upto_region 3 with(at_builtin;go_loud (refine wpList_append_lies _ rfl _ _ 27 rfl B 3 i0 (.int .i64 0) 1 8 Tryz.underlying27 hi hz0 hz1 hz2 rfl (by decide) _ _ _ rfl (oH.out.alloc _) ⟨_,0,none⟩ 1 1 [.int .i64 (v:Int)] rfl rfl (LX _ _ _) (bL rfl) (by decide) (by unfold maxLen;omega) (by omega) (by simp;omega) _ rfl ?_);intro g9 c9 w9 hown hgrow hor hlt9;have VV:=Jc H3.out.blk (wE H3.out.r4 hgrow) (by rw[H3.out.r0];decide);have q5':=VV.cells 5 _ rfl;have f5':=VV.free 5;have HA:=zH (H3.out.way_app hown hgrow hor);clear hown hgrow hor hlt9 VV;dsimp only at q5')
 have H4:=zH HA.out.1;have X4:=zH (X3.out.trans HA.out.2);generalize w9.setCell ⟨g,5,none⟩ (.slice (some ⟨g9,0,none⟩) (way.length+1) c9)=w4 at*
 clear HA q5' f5' q5 H3 oH X3;have q6:=H4.out.blk.cells 6 _ rfl;dsimp only at q6 H4;have hz4:=H4.out.size;have HO4:Hid (w4.ownsRow B 3 1 (.slice Ao opn.length co) opn.length (qe opn)):=zH H4.out.opn;go_wp2_with(at_builtin;go_loud (refine wpList_append_lies _ rfl _ _ 27 rfl B 3 i0 (.int .i64 0) 1 8 Tryz.underlying27 hi hz0 hz1 hz2 rfl (by decide) _ _ _ rfl (HO4.out.alloc _) ⟨_,0,none⟩ 1 1 [.int .i64 (v:Int)] rfl rfl (LX _ _ _) (bL rfl) (by decide) (by unfold maxLen;omega) (by omega) (by simp;omega) _ rfl ?_);intro h9 d9 v9 hown hgrow hor hlt9;have VV:=Jc H4.out.blk (wE H4.out.r5 hgrow) (by rw[H4.out.r0];decide);have CW:=VV.cells 6 _ rfl;have f6':=VV.free 6;have HA:=zH (H4.out.opn_app hown hgrow hor);clear hown hgrow hor hlt9 VV;dsimp only at CW)
 go_end0
 exact⟨rfl,⟨_,_,HA.out.1⟩,X4.out.trans HA.out.2⟩
section
variable{EL:List (List Int)}{n:Nat}{S:Wk}
def Vc(n:Nat)(S:Wk):Nat:=2*cO (fun v=>decide (0<S.place v)) n+S.way.length
theorem zY.gone_none(h:zY EL n S){v:Nat}(hw:v ∈S.way)(hl:S.gone v<(eds EL v).length)(ht:∀t:Nat,t<n->¬(eds EL v)[S.gone v]=(t:Int)):zY EL n (S.go v):=h.go hw hl (fun t htn e=>absurd e (ht t htn))
theorem zY.gone_old(h:zY EL n S)(hn:(n:Int)<=kX){v t:Nat}(hw:v ∈S.way)(hl:S.gone v<(eds EL v).length)(ht:t<n)(h0:0<S.place t)(he:(eds EL v)[S.gone v]=(t:Int)):zY EL n ((S.lower v (min (S.back v) (S.back t))).go v):=by
 obtain⟨h1,h2⟩:=h.see hn hw ht h0 (by unfold kV;rw[<-he];exact Xd hl);refine h1.go hw hl (fun u hu e=> ?_);have e:(eds EL v)[S.gone v]=(u:Int):=e;have:u=t:=by omega
 subst this;rcases h2 with q|⟨q1,q2⟩
 ·exact .inl q
 ·refine .inr ⟨q1,?_⟩;have:(S.lower v (min (S.back v) (S.back u))).back v=min (S.back v) (S.back u):=Jn _ _ _;rw[this];exact q2
theorem zY.gone_new(h:zY EL n S){W:List Nat}{v t:Nat}(hw:S.way=W++[v])(hl:S.gone v<(eds EL v).length)(ht:t<n)(h0:S.place t=0)(he:(eds EL v)[S.gone v]=(t:Int)):zY EL n ((S.go v).meet t)/\Vc n ((S.go v).meet t)<Vc n S:=by
 have hvw:v ∈S.way:=by rw[hw];simp
 have Ha:kV EL v t:=by unfold kV;rw[<-he];exact Xd hl
 have hpw:∀p ∈S.way,qQ EL n p t:=fun p hp=>by
  have hle:S.place p<=S.place v:=by
   have hq:=h.winc;rw[hw,List.pairwise_append]at hq;rw[hw]at hp;rcases Xu.mp hp with q|q
   ·exact Xg (hq.2.2 p q v (by simp))
   ·rw[XR]at q;subst q;exact zn _
  rcases h.tree p hp v (h.wsub v hvw) hle with rfl|q
  ·exact .one Ha
  ·exact .snoc q (h.olt v (h.wsub v hvw)) Ha
 have h1:=h.meet ht h0 hpw;have hvt:v≠t:=fun e=>by subst e;have:=(h.opos v (h.wsub v hvw)).1;omega
 have h2:=h1.go (v:=v) (by show v ∈S.way++[t];simp[hvw]) hl (fun u hu e=>by
  have e:(eds EL v)[S.gone v]=(u:Int):=e;have:u=t:=by omega
  subst this;refine .inr ⟨by show u ∈S.opn++[u];simp,?_⟩;have e1:(S.meet u).back v=S.back v:=YU _ _ hvt;have e2:(S.meet u).place u=S.met+1:=Jn _ _ _;rw[e1,e2];have:=(h.bin v (h.wsub v hvw)).2.1;have:=(h.opos v (h.wsub v hvw)).2;omega)
 refine⟨h2,?_⟩;have hu:=DU (p:=fun v=>decide (0<S.place v)) (g:=t) (by simp[h0]) n ht;have h3:(fun x=>decide (0<((S.go v).meet t).place x))=fun k=>decide (0<S.place k)||decide (k=t):=funext fun x=>by
  by_cases e:x=t
  ·subst e;have:((S.go v).meet x).place x=S.met+1:=Jn _ _ _;rw[this];simp
  ·have:((S.go v).meet t).place x=S.place x:=YU _ _ e;rw[this];simp[e]
 unfold Vc;rw[h3];have:((S.go v).meet t).way.length=S.way.length+1:=by show(S.way++[t]).length=_;simp
 omega
theorem zY.met_all{v x:Nat}(h:0<S.place x):0<(S.meet v).place x:=by
 by_cases e:x=v
 ·subst e;have:(S.meet x).place x=S.met+1:=Jn _ _ _;omega
 ·have:(S.meet v).place x=S.place x:=YU _ _ e;omega
end
theorem RZ(k n:Int)(w:World):Calls Tryz.prog 180 #[zF k n] w fun e w'=>e= .returned (.bool (kS k))/\Below w.heap.size w w':=by
 by_cases h:k=2\/k=3\/k=4
 ·have E:=zH (show kS k=true from Xi h);rcases h with rfl|rfl|rfl;all_goals
   go_enter Tryz.func180,Tryz.ntmps180;go_wp2
   go_ret;refine⟨?_,?_⟩
   ·rw[E.out];rfl
   ·exact zk
 ·have E:=zH (show kS k=false from Xf h);have h2:¬k=2:=by omega
  have h3:¬k=3:=by omega
  have h4:¬k=4:=by omega
  clear h;go_enter Tryz.func180,Tryz.ntmps180;go_wp2
  go_ret;refine⟨?_,?_⟩
  ·rw[E.out];simp[h2,h3,h4]
  ·exact zk
theorem eG(sup:List Int)(k n k' n':Int)(A:Option Addr)(cap B:Nat)(w:World)(hl:sup.length<=1048576)(hB:B<=w.heap.size)(h:jh w B A sup):
  Calls Tryz.prog 148 #[.slice A sup.length cap,zF k n,zF k' n'] w fun e w'=>e= .returned (.bool (zB sup k n k' n'))/\Below w.heap.size w w':=by
 have hW:Below w.heap.size w ((w.alloc (.cells #[.int .i64 k,.int .i64 n] 45)).alloc (.cells #[.int .i64 k',.int .i64 n'] 45)):=
  (zk (w:=w)).alloc (by simp) _
 have HS:=zH (h.below_to hW hB);have HW:=zH hW;have HB:=zH hB;clear h hW hB;by_cases h4:k=4
 ·subst h4;have e:zB sup 4 n k' n'=kS k':=by simp[zB]
  rw[e];clear e;go_enter Tryz.func148,Tryz.ntmps148;go_wp2_with(go_at_call 180;(with_reducible refine(RZ _ _ _).mono ?_);rintro e w' ⟨rfl,hb⟩)
  go_ret;exact⟨rfl,HW.out.trans (hb.mono (by simp;omega))⟩
 ·by_cases h3:k=3
  ·subst h3;by_cases hk:k'=3
   ·subst hk;have e:zB sup 3 n 3 n'=qb (zz sup n) n':=by simp[zB]
    rw[e];clear e;go_enter Tryz.func148,Tryz.ntmps148;go_wp2_with(go_at_call 181;(with_reducible refine(R3 sup n n' A cap B _ hl (by have:=HB.out;simp;omega) HS.out).mono ?_);rintro e w' ⟨rfl,hb⟩)
    go_ret;exact⟨rfl,HW.out.trans (hb.mono (by simp;omega))⟩
   ·have e:zB sup 3 n k' n'=false:=by simp[zB,hk]
    rw[e];clear e;go_enter Tryz.func148,Tryz.ntmps148;go_wp2_with fail
    go_ret;exact⟨by first|rfl|simp[hk],HW.out⟩
  ·by_cases h12:k=1\/k=2
   ·have e:zB sup k n k' n'=decide (k=k'/\n=n'):=by simp[zB,h3,h4,h12]
    rw[e];clear e;rcases h12 with rfl|rfl;all_goals
     go_enter Tryz.func148,Tryz.ntmps148;go_wp2_with fail
     all_goals
      go_ret;refine⟨?_,(zk).alloc (by simp) _⟩;first|rfl|(simp[*];done)
   ·have e:zB sup k n k' n'=false:=by simp[zB,h3,h4,h12]
    rw[e];have h1:¬k=1:=by omega
    have h2:¬k=2:=by omega
    clear e h12;go_enter Tryz.func148,Tryz.ntmps148;go_wp2_with fail
    go_ret;exact⟨rfl,HW.out⟩
set_option maxHeartbeats 1600000 in
theorem qah(cl:List zW)(c:Int)(A:Option Addr)(cap:Nat)(w:World)(hn:cl.length<=1048576)(h:zd vw 3 w w.heap.size A cap cl):
  Calls Tryz.prog 204 #[.slice A cl.length cap,.int .i64 c] w (ZR (zz (zy cl) c) w):=by
 obtain⟨i0,hi,hz0,hz1,hz2⟩:=info_parts ZL;have HC:=zH h;have HS:=zH (eB h.row);clear h;by_cases hk:0<=c/\c<cl.length
 ·obtain⟨k0,k1⟩:=hk;obtain⟨K,rfl⟩:=Xj k0;have k1':K<cl.length:=by omega
  have hlen:(zy cl).length=cl.length:=kE cl;obtain⟨sup,oC⟩:=zj (zy cl);rw[oC]at hlen HS⊢
  have Zj:=zH hlen;have hsl:sup.length<=1048576:=by omega
  have hkl:(K:Int)<sup.length:=by omega
  clear oC;go_enter Tryz.func204,Tryz.ntmps204;clear hlen;go_wp2_with(go_at_call 207;(with_reducible refine(P8 cl K k1' A cap w HC.out).mono ?_);rintro e w1 ⟨rfl,hb⟩;have HB1:=zH hb;clear hb)
  go_loopw [1,5] (fun a v wr=>∃(C:Int) (pre:List Int),a= .int .i64 C/\ -1<=C/\C<sup.length/\Hid (pre++zz sup C=zz sup (K:Int))/\pre.length+C+1<=sup.length/\
    Hid (wr.ownsRow w.heap.size 3 1 v pre.length (pre.map (Value.int .i64)))/\Hid (Below w.heap.size w wr)) (fun a _ _=>(intOf a+1).toNat)
  case atStart=>exact⟨K,[],rfl,by omega,hkl,zH rfl,by simp;omega,zH (XM _ _ _ _),HB1⟩
  case round=>
   obtain⟨C,pre,rfl,c0,c1,HP,hp,HO,HX⟩:=hrel;by_cases hC:C= -1
   ·subst hC;go_wp2_with fail
    go_ret;refine⟨_,rfl,?_,HX.out⟩;have e:pre=zz sup (K:Int):=by rw[<-HP.out,lV (.inl (by omega))];simp
    rw[<-e];exact HO.out
   ·have hC0:0<=C:=by omega
    have hCn:(C != -1)=true:=by simpa using hC
    have HST:=zH (Am hC0 c1);have jZ:=zH (yM sup C);have hsz:=HX.out.size;go_wp2_with(at_builtin;refine wpList_append_own _ rfl _ _ 27 rfl w.heap.size 3 i0 (.int .i64 0) 1 8 Tryz.underlying27 hi hz0 hz1 hz2 rfl (by decide) _ _ _ rfl (HO.out.alloc _) ⟨_,0,none⟩ 1 1 [.int .i64 C] rfl rfl ?c1 ?c2 ?c3 ?c4 ?c5 ?_)
    case c1=>
     intro j u hj
     match j,hj with
     |0,hj=>simp at hj;subst hj;simp[Addr.add]
    case c2=>intro u hu;simp at hu;subst hu;rfl
    case c3=>unfold maxLen;omega
    case c4=>omega
    case c5=>simp;omega
    intro v' w2 hown' hgrow _;have hR:=o6 HO.out hsz HX.out hown' hgrow;have qm:=zH hR.1;have HX2:=zH hR.2;clear hown' hgrow hR;go_wp2_with(go_at_call 208;(with_reducible refine(KR Zj hC0 c1 A cap w.heap.size _ hsl HX2.out.size (HS.out.below_to HX2.out (zn _))).mono ?_);rintro e w3 ⟨rfl,hb⟩;have HB3:=zH hb;clear hb)
    go_roundw;case rel=>
     have hbd:=jZ.out;have:=hbd.2 hC0;exact⟨kv sup C,pre++[C],rfl,hbd.1,by omega,zH (by rw[<-HP.out,HST.out];simp),by simp;omega,zH (Yr qm.out HB3.out (vA qm.out)),zH (zD HX2 HB3)⟩
    case measure=>have:=jZ.out.2 hC0;have:=jZ.out.1;simp[intOf];omega
 ·have hk':c<0\/(cl.length:Int)<=c:=by omega
  have E:=zH (show zz (zy cl) c=[]from lV (by rw[kE];exact hk'));clear hk;rw[E.out];go_enter Tryz.func204,Tryz.ntmps204;go_wp2_with(go_at_call 207;(with_reducible refine(R5 cl c hk' A cap w HC.out).mono ?_);rintro e w1 ⟨rfl,hb⟩;have HB1:=zH hb;clear hb)
  go_ret;exact⟨_,rfl,XM _ _ _ _,HB1.out⟩
open Go.ChangeShapes Go.WideShapes Go.ChangeAt Go.RowKit Go.Shelf
attribute [local go_sem] Oper.semAt_some
def JX(U:List Int):List (Fin U.length):=(List.finRange U.length).reverse
theorem KO(U:List Int):(JX U).length=U.length:=by simp[JX]
theorem q98(U:List Int)(k:Nat)(h:k<U.length):(JX U).take (k+1)=(JX U).take k++[⟨U.length - 1 - k,by omega⟩]:=by
 have hk:k<(JX U).length:=by rw[KO];exact h
 rw[Xx,Xc hk];simp[JX,List.getElem_reverse]
theorem qe3(U:List Int):(JX U).take U.length=JX U:=XA (by rw[KO];omega)
theorem qe2(U:List Int):(JX U).map (fun x=>U[x])=U.reverse:=by
 unfold JX;rw[List.map_reverse];congr 1;apply Wh
 ·simp
 ·intro i h1 h2;simp
def encU(U:List Int)(x:Fin U.length):Array Value:= #[.int .i64 (x.1:Int),.int .i64 U[x]]
def Kept(lo N:Nat)(A B:World):Prop:=∀q:Addr,lo<=q.block->q.block<N->B.cell? q=A.cell? q
def wN(w:World)(lo N:Nat)(A:Option Addr)(xs:List Value):Prop:=∀j u,xs[j]? =some u->∃ad,A=some ad/\lo<=ad.block/\ad.block<N/\w.cell? (ad.add j)=some u
theorem wN.keep{w w':World}{lo N:Nat}{A:Option Addr}{xs:List Value}(h:wN w lo N A xs)(hk:Kept lo N w w'):wN w' lo N A xs:=fun j u hu=>by
 obtain⟨ad,e,h0,h1,hc⟩:=h j u hu;exact⟨ad,e,h0,h1,(hk (ad.add j) (by rw[zC];exact h0) (by exact zZ h1)).trans hc⟩
set_option maxHeartbeats 2000000 in
theorem qie(F:Fence)(n:Nat)(hF:F.fn 219)(hro:F.round=none)(hn:1<=n)(l Bs lo N:Nat)(A:Option Addr)(cap:Nat)(U:List Int)(hU:U.length<=1048576){Kp:World->World->Prop}(NS:∀A B,Kp A B->Kept lo N A B)(J Jx:List (Fin U.length)->World->Prop)
  (hY:∀pre x W,J pre W->pre.length<U.length->YieldAt F (n - 1) Tryz.prog l (encU U x) W fun e W'=>
   (e= .returned (.bool true)/\J (pre++[x]) W'/\Kp W W')\/(e= .returned (.bool false)/\Jx (pre++[x]) W'))
  (W:World) (xX:W.cell? ⟨Bs,0,none⟩=some (.slice A U.length cap)) (hBl:lo<=Bs) (hBn:Bs<N) (hc:wN W lo N A (U.map (Value.int .i64))) (h0:J [] W):
  CallsIn F n Tryz.prog 219 #[.func (.yield l) #[] #[],.pointer (some ⟨Bs,0,none⟩)] W fun e W'=>(∃v,e= .returned v)/\
   ((∃ys,ys=JX U/\J ys W')\/(∃pre,(∃k,k<=U.length/\pre=(JX U).take k)/\Jx pre W')):=by
 have HC:=zH hc;have HQ:Hid (∀wr,Kept lo N W wr->wr.cell? ⟨Bs,0,none⟩=some (.slice A U.length cap)):=zH (fun wr hw=>(hw ⟨Bs,0,none⟩ hBl hBn).trans xX);clear hc;refine callsIn_of_wp Tryz.func219 rfl hF ?_ hro;simp only[Tryz.ntmps219,List.size_toArray,XI,List.length_nil,Nat.reduceAdd,Nat.reduceSub,Array.replicate_succ,Array.replicate_zero,List.push_toArray,List.append_toArray,List.nil_append,List.cons_append]
 gi_wp2
 clear xX
 gi_loopw [3] (fun i wr=>∃(k:Nat) (z:Int),k<=U.length/\i= .int .i64 z/\z=(U.length:Int) - k - 1/\J ((JX U).take k) wr/\Hid (Kept lo N W wr))
  (fun i _=>(intOf i+1).toNat)
 case atStart=>exact⟨0,_,Xn _,rfl,by omega,h0,zH (fun _ _ _=>rfl)⟩
 case round=>
  obtain⟨k,z,hk,rfl,hz,hJs,hnx⟩:=hrel;by_cases hlt:k<U.length
  ·have xX:=HQ.out wr hnx.out;have hjl:U.length - 1 - k<U.length:=by omega
   obtain⟨ad,rfl,hab0,hab,hcx⟩:=(HC.out.keep hnx.out) (U.length - 1 - k) _ (Xc (by simpa using hjl));obtain⟨fn,tmps,assign,body,hy,hR⟩:=hY _ ⟨U.length - 1 - k,hjl⟩ wr hJs (by rw[XW,KO];omega);have HS:=zH (q98 U k hlt);unfold encU at hy;rw[List.getElem_map]at hcx;dsimp only[Fin.getElem_fin]at hy;generalize U[U.length - 1 - k]=u at hcx hy;obtain⟨j,hj⟩:=zj (U.length - 1 - k);simp only[hj]at hcx hy hR HS;have hjl:j<U.length:=by omega
   obtain rfl:z=(j:Int):=by omega
   clear hz
   gi_wp2
   refine hR.mono ?_;rintro e W3 (⟨rfl,hJ3,hk3⟩|⟨rfl,hJx3⟩)
   ·gi_wp2
    go_roundw;case rel=>exact⟨k+1,(j:Int) - 1,by omega,by go_num,by omega,by rw[HS.out];exact hJ3,zH (fun q q0 q1=>(NS _ _ hk3 q q0 q1).trans (hnx.out q q0 q1))⟩
    case measure=>simp[intOf]
   ·gi_wp2
    refine Xk (results_none rfl _ _ _) rfl ?_;exact⟨⟨_,rfl⟩,.inr ⟨_,⟨k+1,by omega,HS.out.symm⟩,hJx3⟩⟩
  ·obtain rfl:k=U.length:=by omega
   obtain rfl:z= -1:=by omega
   clear hz
   gi_wp2
   go_end0
   exact⟨⟨_,rfl⟩,.inl ⟨_,qe3 U,hJs⟩⟩
theorem qkc(F:Fence)(n:Nat)(hF:F.fn 203)(hro:F.round=none)(A:Option Addr)(len cap:Nat)(w:World):
  CallsIn F n Tryz.prog 203 #[.slice A len cap] w fun e w'=>e= .returned (.func (.func 219) #[] #[.pointer (some ⟨w.heap.size,0,none⟩)])/\w'=w.alloc (.cells #[.slice A len cap] 27):=by
 refine callsIn_of_wp Tryz.func203 rfl hF ?_ hro;simp only[Tryz.ntmps203,List.size_toArray,XI,List.length_nil,Nat.reduceAdd,Nat.reduceSub,Array.replicate_succ,Array.replicate_zero,List.push_toArray,List.append_toArray,List.nil_append,List.cons_append]
 gi_wp2
 go_ret;exact⟨rfl,rfl⟩
theorem q9y(F:Fence)(n:Nat)(hF:F.fn 219)(hro:F.round=none)(hn:1<=n)(Bs lo N:Nat)(A:Option Addr)(cap:Nat)(U:List Int)(hU:U.length<=1048576){Kp:World->World->Prop}(NS:∀A B,Kp A B->Kept lo N A B)(w:World)(hBl:lo<=Bs)(xX:Bs<N)(hn₀:N<=w.heap.size)
  (hc:w.cell? ⟨Bs,0,none⟩=some (.slice A U.length cap)) (hI:wN w lo N A (U.map (Value.int .i64))):
  SeqStopsK F n Tryz.prog 219 #[.pointer (some ⟨Bs,0,none⟩)] (encU U) Kp (fun ys=>ys=JX U)
   (fun pre=>∃k,k<=U.length/\pre=(JX U).take k) U.length w:=fun l J Jx W hW _ _ hY h0=>
 qie F n hF hro hn l Bs lo N A cap U hU NS J Jx hY W ((hW.cell (p:=⟨Bs,0,none⟩) (Xp xX hn₀)).trans hc) hBl xX (hI.keep fun q _ q1=>hW.cell (Xp q1 hn₀)) h0
attribute [local go_sem] Oper.semAt_some
theorem q7j{w:World}{base e n c:Nat}{A:Option Addr}{xs:List Value}(h:w.ownsRow base e 1 (.slice A n c) n xs):wN w base w.heap.size A xs:=fun j u hu=>by
 obtain⟨ad,e,hb,hc⟩:=zw.of_own h j u hu;refine⟨ad,e,?_,hb,hc⟩;rcases h.2 with⟨h0,_⟩|⟨g,cap,cur,hv,hg,_⟩
 all_goals grind
theorem qff{cl:List zW}{c:Int}{U:List Int}{A:Option Addr}{cap:Nat}{w:World}(hn:cl.length<=1048576)(HU:Hid (zz (zy cl) c=U))(h:zd vw 3 w w.heap.size A cap cl):
  Calls Tryz.prog 204 #[.slice A cl.length cap,.int .i64 c] w (ZR U w):=by
 have H:=qah cl c A cap w hn h;rw[HU.out]at H;exact H
def vX(N g:Nat)(A B:World):Prop:=A.heap.size<=B.heap.size/\∀b,b<N->b≠g->B.heap[b]? =A.heap[b]?
theorem vX.refl(N g:Nat)(A:World):vX N g A A:=⟨zn _,fun _ _ _=>rfl⟩
theorem vX.trans{N g:Nat}{A B C:World}(h:vX N g A B)(h':vX N g B C):vX N g A C:=⟨Xe h.1 h'.1,fun b b0 b1=>(h'.2 b b0 b1).trans (h.2 b b0 b1)⟩
theorem vX.cell{N g:Nat}{A B:World}(h:vX N g A B){p:Addr}(h0:p.block<N)(h1:p.block≠g):B.cell? p=A.cell? p:=by
 unfold World.cell?;rw[h.2 _ h0 h1]
theorem vX.kept{N g:Nat}{A B:World}(h:vX N g A B):Kept (g+1) N A B:=fun q q0 q1=>h.cell q1 (by omega)
theorem vX.putObj{N g:Nat}{A:World}{l:Nat}{o:Obj}(hl:N<=l):vX N g A (A.putObj l o):=
 ⟨by simp,(by grind [World.putObj_heap_other])⟩
theorem vX.grown{N g:Nat}{A B C:World}{row:Option Nat}(h:vX N g A B)(hg:B.grownBy C row)(hN:N<=B.heap.size)(hr:∀r,row=some r->N<=r\/r=g):vX N g A C:=
 ⟨Xe h.1 hg.size,fun b b0 b1=>(hg.block b (by omega) (by grind)).trans (h.2 b b0 b1)⟩
theorem vX.box{N g:Nat}{A B:World}(h:vX N g A B){k:Nat}{hd:zh}{m:za}(H:YW A k hd m)(h0:k<N)(h1:k≠g):YW B k hd m:=by
 obtain⟨q0,q1,q2,q3,q4,q5,q6⟩:=H;have c:∀i,B.cell? ⟨k,i,none⟩=A.cell? ⟨k,i,none⟩:=fun i=>h.cell (p:=⟨k,i,none⟩) h0 h1;exact⟨(c 0).trans q0,(c 1).trans q1,(c 2).trans q2,(c 3).trans q3,(c 4).trans q4,(c 5).trans q5,(c 6).trans q6⟩
theorem q3y{β:Type}{B N g:Nat}{A:World}(hN:N<=B)(hA:N<=A.heap.size):OwnFrom B (fun(_:β) W=>vX N g A W):=fun s X Y row hs hg hr=>
 hs.grown hg (Xe hA hs.1) (by grind)
def bN(cl:List zW)(U:List Int)(pre:List (Fin U.length)):List (Int×Int):=(pre.map (fun x=>U[x])).flatMap (ZM cl)
theorem q3l(cl:List zW)(U:List Int)(pre:List (Fin U.length))(x:Fin U.length):bN cl U (pre++[x])=bN cl U pre++ZM cl U[x]:=by simp[bN]
theorem q47(cl:List zW)(U:List Int):bN cl U (JX U)=U.reverse.flatMap (ZM cl):=by unfold bN;rw[qe2]
theorem qjj{w:World}{B e size n:Nat}{v:Value}{xs:List Value}(h:w.ownsRow B e size v n xs):∀r,v.ownBlock=some r->B<=r:=fun r hr=>by
 rcases h.2 with⟨rfl,_⟩|⟨g,cap,cur,rfl,hg,_⟩
 ·simp[Value.ownBlock]at hr
 ·have:g=r:=by simpa[Value.ownBlock]using hr
  omega
theorem q7x{N g:Nat}{A B:World}(h:vX N g A B)(v:Value):vX N g A (B.setCell ⟨g,0,none⟩ v):=
 ⟨by have:=(KeepsWalks.setCell B ⟨g,0,none⟩ v).size;exact Xe h.1 this,fun b b0 b1=>(XJ _ _ _ b b1).trans (h.2 b b0 b1)⟩
theorem qch{w:World}{B e size n:Nat}{v:Value}{xs:List Value}(h:w.ownsRow B e size v n xs):∀j o,v.ownBlock=some j->w.heap[j]? =some o->o.isCells=true:=fun j o hj ho=>by
 rcases h.2 with⟨rfl,_⟩|⟨g,cap,cur,rfl,hg,hh,_⟩
 ·simp[Value.ownBlock]at hj
 ·obtain rfl:g=j:=by simpa[Value.ownBlock]using hj
  rw[hh]at ho;cases ho;rfl
theorem qji{w:World}{B e size n:Nat}{v:Value}{xs:List Value}(h:w.ownsRow B e size v n xs):∃A c,v= .slice A n c:=by
 grind [Je]
set_option maxHeartbeats 3200000 in
theorem Q9(m:za)(c:Int)(h:zh)(w:World)(H:zr w w.heap.size h m)(hn:m.classes.length<=1000)(hf:∀x ∈m.classes,x.fields.length<=1000):
  Calls Tryz.prog 193 #[zv h m,.int .i64 c] w (eO (qg m.classes c) w):=by
 obtain⟨i0,hi,hz0,hz1,hz2⟩:=jJ bM;have HW:=zH ((zk (w:=w) (o:=(ze h m))).alloc (by simp) (.cells #[.slice none 0 0] 24));have Vl:=zH (show((w.alloc (ze h m)).alloc (.cells #[.slice none 0 0] 24)).heap.size=w.heap.size+1+1 by simp);have zO:=zH (H.now HW.out);have HBX:=zH ((qd w h m).keep ((zb _ (w.alloc (ze h m))).alloc (zn _) (.cells #[.slice none 0 0] 24)) (by simp));have HAL:=zH (show Go.Boxed ((w.alloc (ze h m)).alloc (.cells #[.slice none 0 0] 24)) (w.heap.size+1) 24 (.slice none 0 0)from by
  have:=Go.Boxed.new (w.alloc (ze h m)) 24 (.slice none 0 0);rw[World.size_alloc]at this;exact this)
 have HI0:=zH H;have HF:=zH hf;have lG:=zH (show qg m.classes c=(zz (zy m.classes) c).reverse.flatMap (ZM m.classes)from rfl);have hsl:(zy m.classes).length=m.classes.length:=kE _;obtain⟨U,hU⟩:=zj (zz (zy m.classes) c);have iZ:U.length<=1000:=by grind [pz]
 have Mr:Hid (∀i ∈U,0<=i/\i<m.classes.length):=zH (by rw[<-hU];intro i hi;have:=Ux hi;omega);have HU:=zH hU;rw[hU]at lG;clear hsl hU H hf;refine(callsIn_wide (n:=4)).1 ?_;refine callsIn_of_wp_marks Tryz.func193 rfl Xs ?_ rfl;simp only[Tryz.ntmps193,List.size_toArray,XI,List.length_nil,Nat.reduceAdd,Nat.reduceSub,Array.replicate_succ,Array.replicate_zero,List.push_toArray,List.append_toArray,List.nil_append,List.cons_append]
 gi_wp2_with (first
  |(refine⟨Xs,?_⟩;gi_at_call 204;refine(callsIn_wide.2 (qff (by omega) HU zO.out.classes)).mono ?_;rintro e w3 ⟨v3,rfl,ho,hb⟩;obtain⟨A3,c3,rfl,hl3,g1,g2⟩:=Ji ho;have HB3:=zH hb;have qa:=zH (q7j ho);clear hb ho hl3)
  |(refine⟨Xs,?_⟩;gi_at_call 203;refine(qkc Fence.wide _ Xs rfl _ _ _ _).mono ?_;rintro e w' ⟨rfl,rfl⟩))
 generalize(w.alloc (ze h m)).alloc (.cells #[.slice none 0 0] 24)=w2 at*
 obtain⟨N,hN⟩:∃N,N=w3.heap.size:=⟨_,rfl⟩
 have hs3:=HB3.out.size;have hs2:=Vl.out;rw[<-hN]at qa hs3;rw[hs2]at qa;have Nj:Below w2.heap.size w2 (w3.alloc (.cells #[.slice A3 U.length c3] 27)):=HB3.out.trans ((zb _ w3).alloc (by omega) _);have ql4:=HBX.out.keep Nj (by omega);have hall:=(Nj.block (w.heap.size+1) (by omega)).trans HAL.out;refine wpIn_rangeFunc_ownG rfl (by omega) (gf:=219) (lb:= #[.pointer (some ⟨w3.heap.size,0,none⟩)]) rfl Xs (enters_of Tryz.func219 (by kernel_rfl) rfl)
  (q9y Fence.wide 3 Xs rfl (by omega) w3.heap.size (w.heap.size+1+1) (N+1) A3 c3 U (by omega) (Kp:=vX (N+1) (w.heap.size+1)) (fun _ _ hk=>hk.kept) (w3.alloc (.cells #[.slice A3 U.length c3] 27)) (by omega) (by omega) (by simp;omega)
   (by simp_all) (fun j u hu=>by
    obtain⟨ad,e,a0,a1,hc⟩:=qa.out j u hu
    grind [World.cell?_alloc_lt,zC]))
  (fun a b=>a.trans b) (fun W l o o' hl _ _ _=>vX.putObj (by simp_all)) (zb _ _) (fun _=>rfl)
  (fun pre W=>(∃v,Go.Boxed W (w.heap.size+1) 24 v/\W.ownsRow (N+1) 45 2 v (bN m.classes U pre).length (zN (bN m.classes U pre))/\True)/\vX (N+1) (w.heap.size+1) (w3.alloc (.cells #[.slice A3 U.length c3] 27)) W/\Below w.heap.size w W)
  (fun _ _ _=>False)
  (OwnFrom.and (Own.from (holdsRow_own (N+1) (w.heap.size+1) 24 45 2 (fun pre=>(bN m.classes U pre).length) (fun pre=>zN (bN m.classes U pre)) (fun _ _=>True)) _) (OwnFrom.and (q3y (by simp;omega) (by simp;omega)) (ownFrom_below (zn _) (by simp;omega))))
  (fun _ _ _ _ _ hs _ _=>hs)
  ⟨⟨_,hall,XM _ _ _ _,Xs⟩,vX.refl _ _ _,HW.out.trans (Nj.mono (by omega))⟩
  (fun x=> {tmps:= #[zv h m,.int .i64 c,.pointer (some ⟨w.heap.size,0,none⟩),undef,.slice none 0 0,.pointer (some ⟨w.heap.size+1,0,none⟩),undef,.int .i64 U[x],
   .pointer (some ⟨w.heap.size,0,none⟩),.slice h.A0 m.classes.length h.c0,.int .i64 c,.slice A3 U.length c3,.func (.func 219) #[] #[.pointer (some ⟨w3.heap.size,0,none⟩)],
   .int .i64 (x.1:Int),.int .i64 U[x],undef,undef,undef,undef,undef,undef,undef,undef,undef],defers:=[]}) ?assign ?body ?done ?stop
 case assign=>
  intro l x W K hK;unfold encU
  gi_wp2
  exact hK
 case body=>
  rintro l pre x W ⟨⟨v,hv,hrow,-⟩,hkb,hB⟩ hlt;have jS:=zH (q3l m.classes U pre x);have hsum:=yU HF.out (pre.map (fun x=>U[x]));rw[Xm]at hsum;obtain⟨u0,u1⟩:=Mr.out U[x] (Xd x.2);generalize U[x]=u at*
  obtain⟨j,rfl⟩:=Xj u0;have hjl:j<m.classes.length:=by omega
  have hfx:=HF.out _ (Xd hjl);have Zg:=zH (PK hjl);obtain⟨ad,e0,hab,hcx⟩:=(HI0.out.below_to hB (zn _)).classes.row.at_ hjl;generalize m.classes[j]=y at*
  obtain⟨s0,⟨A1,k1,s1,hs1⟩,_⟩:=hcx;have hmx:Tryz.prog.follows .mixedOrders=true:=by kernel_rfl
  obtain⟨q0,q1,q2,q3,q4,q5,q6⟩:=hkb.box ql4 (by omega) (by omega);clear q1 q2 q3 q4 q5 q6 s0;rw[e0]at q0;obtain⟨L,hL⟩:=zj (bN m.classes U pre);rw[hL]at hrow jS;have Qx:L.length<=1000000:=by rw[<-hL];unfold bN;omega
  have HO:=zH hrow;obtain⟨Av,cv,rfl,_,_⟩:=Yq hrow;clear hrow hL hsum;have hc:=hv.cell;have HV:=zH hv;have HKB:=zH hkb;have HB:=zH hB;have qZ:Hid (∀W',Below w.heap.size W W'->W'.cell? (zc (ad.add (j*3)) 1)=some (.slice A1 y.fields.length k1)):=zH (fun W' hW=>(hW.cell (p:=zc (ad.add (j*3)) 1) (by show(ad.add _).block<_;rw[zC];exact hab)).trans s1);have Vu:=zH (YQ hs1.row);have hNW:N+1<=W.heap.size:=by have:=hkb.1;simp at this;omega
  clear hv hkb hB hs1
  gi_wp2
  have qkk:Hid (zw W.drew w.heap.size A1 (zN y.fields)):=Vu;have sJ:Hid (W.drew.ownsRow (N+1) 45 2 (.slice Av L.length cv) L.length (zN L)):=HO;have HVd:Hid (Go.Boxed W.drew (w.heap.size+1) 24 (.slice Av L.length cv)):=HV;have HKd:Hid (vX (N+1) (w.heap.size+1) W W.drew):=zH ⟨zn _,fun _ _ _=>rfl⟩;have HBd:Hid (Below w.heap.size W W.drew):=zH (zb w.heap.size W).drew;refine q34 hmx (by kernel_rfl) (S:=fun w'=>w'.cell? ⟨w.heap.size,0,none⟩=some (.slice (some ad) m.classes.length h.c0)/\w'.cell? (zc (ad.add (j*3)) 1)=some (.slice A1 y.fields.length k1)) ⟨q0,s1⟩ (fun hHeld=> ?_);refine mT 1 (h:=mT 3 (h:=mT 2 (h:=mT 4 (h:=mT 5 (h:=mT 6 (h:= ?_))))));refine mR 0 (h:=fun K hK=> ?_);go_simp;refine mK hK ⟨q0,s1⟩ (h:=fun hHeld=> ?_);clear hK K;refine mR 7 (h:=fun K hK=> ?_)
  (refine gL rfl _ _ 24 rfl (N+1) 45 i0 (.agg #[.int .i64 0,.int .i64 0]) 2 16 Tryz.underlying24 hi hz0 hz1 hz2 rfl (by decide) _ L.length (zN L) rfl sJ.out A1 y.fields.length k1 _ (zN y.fields) (Yt _) rfl qkk.out (QM _) (by unfold maxLen;omega) (by omega) hNW ?_;intro v6 w6 hown hgrow;have hrw:=qjj sJ.out;have hV6:=HVd.out.kept hgrow (HVd.out.not_row (by decide) sJ.out);have HK6:=zH (HKd.out.grown hgrow hNW (fun r e=> .inl (hrw r e)));have Zk:=zH (HBd.out.grown hgrow (by show w.heap.size<=W.heap.size;omega) (fun r e=>by have:=hrw r e;omega));obtain⟨A6,c6,rfl⟩:=qji hown;have HO6:=zH hown;have Yl:=zH hV6;have xy:=zH (KeepsOthers.of_grownBy hgrow (qch sJ.out));clear hown hgrow hV6 hrw;have hc6:=Yl.out.cell;have hf6:=Yl.out.frozen;have MO:=zH (q7x HK6.out (.slice A6 (L.length+y.fields.length) c6));have HB8:=zH (Zk.out.setCell (p:=⟨w.heap.size+1,0,none⟩) (by show w.heap.size<=w.heap.size+1;omega) (.slice A6 (L.length+y.fields.length) c6)))
  refine mK hK ⟨(HK6.out.cell (p:=⟨w.heap.size,0,none⟩) (by show w.heap.size<N+1;omega) (by show w.heap.size≠w.heap.size+1;omega)).trans q0,qZ.out _ Zk.out⟩ (h:=fun hHeld=> ?_);clear hK K;refine mR 8 (h:=fun K hK=> ?_);go_simp;refine mK hK ⟨(MO.out.cell (p:=⟨w.heap.size,0,none⟩) (by show w.heap.size<N+1;omega) (by show w.heap.size≠w.heap.size+1;omega)).trans q0,qZ.out _ HB8.out⟩ (h:=fun hHeld=> ?_);clear hK K;refine wpAnyH_done (by kernel_rfl) ?_ _;refine wR.normal ?_
  gi_wp2
  have q1n:=HO6.out.kept (grownBy_setCell' w6 (w.heap.size+1) (.slice A6 (L.length+y.fields.length) c6)) (.inr (Yl.out.not_row (by decide) HO6.out).symm);refine⟨(((KeepsOthers.drew W).trans xy.out).trans (KeepsOthers.setCell _ _ _)).from _,MO.out,⟨_,Yl.out.set _,?_,Xs⟩,HKB.out.trans MO.out,HB.out.trans HB8.out⟩;rw[jS.out,Zg.out];unfold zN at q1n⊢
  rw[Wa,Xh];exact q1n
 case done=>
  rintro D ys W hD rfl ⟨⟨v,hv,hrow,-⟩,hkb,hB⟩ hK;have hc:=hv.cell
  gi_wp2
  refine⟨by simp,.inl ⟨_,_,rfl,run_takeDeferred hK,?_⟩⟩;rw[q47,<-lG.out]at hrow;exact⟨_,results_tmp rfl _ _ _,v,rfl,js (ownsRow_putObj hrow _ hK rfl) (by omega),hB.trans (belowK_b (w:=w) (zn _) W D _ _ (by simp at hD;omega) hK rfl rfl)⟩
 grind
theorem qeu(k n cap:Nat)(ad:Addr)(x y:Int)(w:World)(hk:k<n)(hn:n<=9223372036854775807)(hab:ad.block<w.heap.size)
  (r0:w.cell? (ad.add (k*2))=some (.int .i64 x)) (r1:w.cell? (zc (ad.add (k*2)) 1)=some (.int .i64 y)):
  Calls Tryz.prog 202 #[.slice (some ad) n cap,.int .i64 k] w fun e w'=>e= .returned (.tuple #[zF x y,.bool true])/\Below w.heap.size w w':=by
 have HW:=zH (zk (w:=w) (o:=(.cells #[.int .i64 0,.int .i64 0] 45)));have r0:=(HW.out.cell (p:=ad.add (k*2)) (by exact zZ hab)).trans r0;have r1:=(HW.out.cell (p:=zc (ad.add (k*2)) 1) (by show(ad.add _).block<_;rw[zC];exact hab)).trans r1;go_enter Tryz.func202,Tryz.ntmps202;go_wp2
 exact Xk (v:= .tuple #[zF x y,.bool true]) (by simp[results,Tryz.results202,go_sem]) rfl ⟨rfl,zk⟩
theorem O7{P:Prop}(h:P:=by
 go_enter Tryz.func202,Tryz.ntmps202;go_wp2
 exact Xk (v:= .tuple #[zF 0 0,.bool false]) (by simp[results,Tryz.results202,go_sem]) rfl ⟨rfl,(zk).alloc (by simp) _⟩):P:=h
theorem qif(k:Int)(n cap:Nat)(A:Option Addr)(w:World)(hn:n<=9223372036854775807)(hk:k<0\/(n:Int)<=k):
  Calls Tryz.prog 202 #[.slice A n cap,.int .i64 k] w fun e w'=>e= .returned (.tuple #[zF 0 0,.bool false])/\Below w.heap.size w w':=by
 by_cases h0:k<0
 ·clear hk;exact O7
 ·have h1:(n:Int)<=k:=by omega
  have h2:0<=k:=by omega
  clear hk h0;exact O7
theorem Uu{l:List (Int×Int)}{A:Option Addr}{cap:Nat}{w0 w:World}{n:Int}{t:Int×Int}(hS:Hid (zd zf 2 w0 w0.heap.size A cap l))(hb:Hid (w0=w))(hl:l.length<=9223372036854775807)(ht:Hid ((if 0<=n then l[n.toNat]?.getD (0,0)else(0,0))=t)):
  Calls Tryz.prog 202 #[.slice A l.length cap,.int .i64 n] w fun e w'=>∃b,e= .returned (.tuple #[zF t.1 t.2,.bool b])/\Below w.heap.size w w':=by
 obtain rfl:=hb.out;obtain rfl:=ht.out;by_cases h:0<=n/\n<l.length
 ·obtain⟨j,rfl⟩:=Xj h.1;obtain⟨ad,rfl,hab,r0,r1⟩:=hS.out.row.at_ (show j<l.length by omega);have e:(if(0:Int)<=j then l[(j:Int).toNat]?.getD (0,0)else(0,0))=l[j]'(by omega):=by simp[show j<l.length by omega]
  rw[e];exact(qeu j _ cap ad _ _ _ (by omega) hl hab r0 r1).mono fun e w' h=>⟨true,h⟩
 ·have e:(if(0:Int)<=n then l[n.toNat]?.getD (0,0)else(0,0))=(0,0):=by
   split
   ·rw[XE (by omega)];rfl
   ·rfl
  rw[e];exact(qif n _ cap A _ hl (by omega)).mono fun e w' h=>⟨false,h⟩
theorem q0s{P:Prop}(h:P:=by
 go_wp2_with(go_at_call 202;(first|(with_reducible refine(Uu HA (zH rfl) hn63 HT).mono ?_)|(with_reducible refine(Uu HL (zH rfl) hl63 HT).mono ?_));rintro e w2 ⟨b,rfl,hb⟩;have HB2:=zH hb;have kx:=zH (HQ.out.keep hb hlt);have c0:=kx.out.cells 0 _ rfl;have c1:=kx.out.cells 1 _ rfl;have f0:=kx.out.free 0;have f1:=kx.out.free 1;have hlt2:=kx.out.lt;clear hb)
 have q19:=(kx.out.set 0 (.int .i64 t.1)).set 1 (.int .i64 t.2);have HB3:=zH ((HB2.out.mono HW.out.size).setCell (p:=⟨w.heap.size+1,0,none⟩) (by show w.heap.size<=w.heap.size+1;omega) (.int .i64 t.1)|>.setCell (p:=⟨w.heap.size+1,1,none⟩) (by show w.heap.size<=w.heap.size+1;omega) (.int .i64 t.2));have kf:=zH (zm.keep q19 (zk (o:=(.cells #[.int .i64 t.1,.int .i64 t.2] 45))) q19.lt);have d0:=kf.out.cells 0 _ rfl;have d1:=kf.out.cells 1 _ rfl;exact Xk (v:=zF t.1 t.2) (by simp[results,Tryz.results191,go_sem,d0,d1]) rfl ⟨rfl,HW.out.trans (HB3.out.alloc (Xe HW.out.size HB3.out.size) _)⟩):P:=h
theorem q9n(x:zl)(n:Int)(hs:n<=9223372036854775807)(hx:qH)(w:World)(H:jR w w.heap.size hx x):
  Calls Tryz.prog 191 #[ZD hx x,.int .i64 n] w fun e w'=>e= .returned (zF (vB x n).1 (vB x n).2)/\Below w.heap.size w w':=by
 have HW:=zH ((zk (w:=w) (o:=(.cells (qj hx x).toArray 48))).alloc (by simp) (.cells #[.int .i64 0,.int .i64 0] 45));have HQ:=zH (show zm ((w.alloc (.cells (qj hx x).toArray 48)).alloc (.cells #[.int .i64 0,.int .i64 0] 45)) (w.heap.size+1) [.int .i64 0,.int .i64 0] 45 from zm.at_ (by simp) _ _);have HC:=zH ((qr w (qj hx x) 48).keep (zk (o:=(.cells #[.int .i64 0,.int .i64 0] 45))) (by simp));have HM:=zH (H.now HW.out);have HA:=zH HM.out.args;have HL:=zH HM.out.locals;have h1:=H.args.le;have h2:=H.args.cap;have h3:=H.locals.le;have h4:=H.locals.cap;have hn63:x.args.length<=9223372036854775807:=by omega
 have hl63:x.locals.length<=9223372036854775807:=by omega
 obtain⟨t,ht⟩:=zj (vB x n);rw[ht];have YK:=zH ht;clear H h1 h2 h3 h4 ht;go_enter Tryz.func191,Tryz.ntmps191;go_upto_region 1 with fail
 generalize(w.alloc (.cells (qj hx x).toArray 48)).alloc (.cells #[.int .i64 0,.int .i64 0] 45)=w1 at*
 have q0:=HC.out 0 _ rfl;have q1:=HC.out 1 _ rfl;have hlt:=HQ.out.lt;clear HC;by_cases qme:n<(x.args.length:Int)
 ·have HT:Hid ((if 0<=n then x.args[n.toNat]?.getD (0,0)else(0,0))=t):=zH (by
   rw[<-YK.out];unfold vB;split
   ·rw[XO (by omega)]
   ·rfl)
  exact q0s
 ·have qme:(x.args.length:Int)<=n:=by omega
  have HT:Hid ((if 0<=n - (x.args.length:Int)then x.locals[(n - (x.args.length:Int)).toNat]?.getD (0,0)else(0,0))=t):=zH (by
   rw[<-YK.out];unfold vB;rw[Xb (by omega),Xb (by omega),XN (by omega),show n.toNat - x.args.length=(n - (x.args.length:Int)).toNat by omega])
  exact q0s
theorem Ee(k n c:Int)(w:World):Calls Tryz.prog 163 #[zF k n,.int .i64 c] w fun e w'=>e= .returned (.bool (jl k n c))/\Below w.heap.size w w':=by
 by_cases h3:k=3
 ·subst h3;by_cases h0:0<=n
  ·by_cases h1:n<c
   ·have E:=zH (show jl 3 n c=true from Xi (by omega));go_enter Tryz.func163,Tryz.ntmps163;go_wp2
    go_ret;refine⟨?_,zk⟩;rw[E.out];rfl
   ·have E:=zH (show jl 3 n c=false from Xf (by omega));go_enter Tryz.func163,Tryz.ntmps163;go_wp2
    go_ret;refine⟨?_,zk⟩;rw[E.out];first|rfl|simp[h1]
  ·have E:=zH (show jl 3 n c=false from Xf (by omega));go_enter Tryz.func163,Tryz.ntmps163;go_wp2
   go_ret;refine⟨?_,zk⟩;rw[E.out];first|rfl|simp[h0]
 ·have E:=zH (show jl k n c=(decide (k=1/\n=0)||decide (k=2/\n=0))by
   unfold jl;rw[XQ];simp;omega)
  by_cases h1:k=1/\n=0
  ·obtain⟨rfl,rfl⟩:=h1;go_enter Tryz.func163,Tryz.ntmps163;go_wp2
   go_ret;refine⟨?_,zk⟩;rw[E.out];rfl
  ·by_cases h2:k=2/\n=0
   ·obtain⟨rfl,rfl⟩:=h2;go_enter Tryz.func163,Tryz.ntmps163;go_wp2
    go_ret;refine⟨?_,zk⟩;rw[E.out];rfl
   ·go_enter Tryz.func163,Tryz.ntmps163;go_wp2
    all_goals
     go_ret;refine⟨?_,zk⟩;rw[E.out];first|rfl|(simp_all;done)|(simp;omega)
theorem q8(a:Addr)(i:Nat)(hi:0<i):a.add i=zc a i:=by unfold Addr.add;grind
def Jy(z:zl×qH):List Value:=qj z.2 z.1
def Jw(zs:List (zl×qH)):List Value:=zs.flatMap Jy
theorem qgz(l:List (zl×qH)):(Jw l).length=l.length*8:=Du (f:=Jy) (k:=8) (fun _=>rfl) l
theorem qgy(l:List (zl×qH)):∀u ∈Jw l,u.oneCell'=true:=fun u hu=>by
 obtain⟨t,_,h⟩:=List.mem_flatMap.mp hu;simp[Jy]at h;rcases h with rfl|rfl|rfl|rfl|rfl|rfl|rfl|rfl<;>rfl
theorem U9{zs:List (zl×qH)}{i r:Nat}{z:zl×qH}(h:zs[i]? =some z)(hr:r<8):(Jw zs)[i*8+r]? =(Jy z)[r]? :=YP (f:=Jy) (k:=8) (fun _=>rfl) zs i r z h hr
theorem Sw{Q:Nat->zl->qH->Prop}:∀(l:List zl) (k:Nat),(∀i x,l[i]? =some x->∃y,Q (k+i) x y)->∃zs:List (zl×qH),zs.map (·.1)=l/\∀i z,zs[i]? =some z->Q (k+i) z.1 z.2
 | [],k,_=>(by simp_all)
 |a::l,k,h=>by
  obtain⟨y,hy⟩:=h 0 a rfl;obtain⟨zs,e,hz⟩:=Sw (Q:=Q) l (k+1) fun i x hi=>by
   have:=h (i+1) x (by simpa using hi)
   grind
  refine⟨(a,y)::zs,by simp[e],fun i z hi=> ?_⟩
  grind
theorem qjo{w:World}{B:Nat}{A:Option Addr}{l:List zl}(h:qD kd 8 w B A l):∃zs:List (zl×qH),zs.map (·.1)=l/\zw w B A (Jw zs)/\∀z ∈zs,jR w B z.2 z.1:=by
 obtain⟨zs,e,hz⟩:=Sw (Q:=fun i (x:zl) (y:qH)=>jR w B y x/\∃ad,A=some ad/\ad.block<B/\rX w (ad.add (i*8)) y x) l 0 (fun i x hi=>by
  obtain⟨ad,e,hb,hm⟩:=h i x hi;obtain⟨hx,h1,h2⟩:=V3 hm
  grind)
 refine⟨zs,e,fun j u hu=> ?_,fun z hz'=> ?_⟩
 ·obtain⟨i,r,t,rfl,hr,hi,hv⟩:=LD (f:=Jy) (k:=8) (by decide) (fun _=>rfl) zs j u hu;obtain⟨_,ad,e,hb,hc⟩:=hz i t hi;rw[Nat.zero_add]at hc;refine⟨ad,e,hb,?_⟩;rw[<-uK]
  match r,hr,hv with
  |0,_,hv=>simp[Jy]at hv;subst hv;rw[show(ad.add (i*8)).add 0=ad.add (i*8)by simp[Addr.add]];exact hc.c0
  |1,_,hv=>simp[Jy]at hv;subst hv;rw[q8 _ 1 (by decide)];exact hc.c1
  |2,_,hv=>simp[Jy]at hv;subst hv;rw[q8 _ 2 (by decide)];exact hc.c2
  |3,_,hv=>simp[Jy]at hv;subst hv;rw[q8 _ 3 (by decide)];exact hc.c3
  |4,_,hv=>simp[Jy]at hv;subst hv;rw[q8 _ 4 (by decide)];exact hc.c4
  |5,_,hv=>simp[Jy]at hv;subst hv;rw[q8 _ 5 (by decide)];exact hc.c5
  |6,_,hv=>simp[Jy]at hv;subst hv;rw[q8 _ 6 (by decide)];exact hc.c6
  |7,_,hv=>simp[Jy]at hv;subst hv;rw[q8 _ 7 (by decide)];exact hc.c7
 grind [List.getElem?_of_mem]
theorem qgl{w:World}{B e n g c:Nat}{zs:List (zl×qH)}(h:w.ownsRow B e 8 (.slice (some ⟨g,0,none⟩) n c) n (Jw zs))(hn:zs.length=n)(hg:∀z ∈zs,jR w w.heap.size z.2 z.1):zd kd 8 w w.heap.size (some ⟨g,0,none⟩) c (zs.map (·.1)):=by
 rcases Je h with⟨hv,_⟩|⟨g',c',hv,h1,h2⟩
 ·cases hv
 ·injection hv with e1 e2 e3;injection e1 with e1;injection e1 with e1;subst e1 e3;obtain⟨hb,hc⟩:=lZ h;refine⟨by grind,h2,fun i x hi=> ?_⟩;rw[XF]at hi;cases hz:zs[i]? with
  |none=>grind
  |some z=>
   rw[hz]at hi;simp at hi;subst hi;have hq:=hg z (Xr hz);have cell:∀(r:Nat) (u:Value),r<8->(Jy z)[r]? =some u->w.cell? ⟨g,i*8+r,none⟩=some u/\g<w.heap.size:=(by grind [U9])
   have e0:Addr.add ⟨g,0,none⟩ (i*8)=⟨g,i*8,none⟩:=by unfold Addr.add;grind
   refine⟨_,rfl,(cell 0 _ (by decide) rfl).2,?_⟩;rw[e0];exact⟨⟨_,_,(cell 0 _ (by decide) rfl).1,hq.args⟩,⟨_,_,(cell 1 _ (by decide) rfl).1,hq.locals⟩,(cell 2 _ (by decide) rfl).1,(cell 3 _ (by decide) rfl).1,⟨_,_,(cell 4 _ (by decide) rfl).1,hq.code⟩,(cell 5 _ (by decide) rfl).1,(cell 6 _ (by decide) rfl).1,⟨_,_,(cell 7 _ (by decide) rfl).1,hq.phi⟩⟩
theorem q8d(w:World)(b i:Nat)(v:Value):w.grownBy (w.setCell ⟨b,i,none⟩ v) (some b):=⟨rfl,rfl,rfl,by simp,fun k _ hk=>XJ _ _ _ k (fun e=>hk (by rw[e]))⟩
theorem Rf{w w':World}{g N:Nat}{vs:List Value}{T:TypeId}(h:zm w g vs T)(hg:w.grownBy w' (some N))(hne:g≠N):zm w' g vs T:=(hg.block g (zm.lt h) (fun e=>hne (by injection e))).trans h
def atI(L:List Int)(i:Int):Int:=if i<0 then 0 else L[i.toNat]?.getD 0
theorem qkd(L:List Int)(k:Nat):atI L (k:Int)=oN L k:=by unfold atI oN;rw[Xa (by omega),Xo]
def ZE(L:List Int)(i b:Int):List Int:=if 0<=i/\i<L.length then L.set i.toNat (oN L i.toNat+b)else L
theorem EJ(L:List Int)(i b:Int):(ZE L i b).length=L.length:=by unfold ZE;split<;>simp
theorem q0e{L:List Int}{i b:Int}{v:Nat}(h:v<L.length):oN (ZE L i b) v=oN L v+(if(v:Int)=i then b else 0):=by
 unfold ZE;by_cases h0:0<=i/\i<L.length
 ·rw[Xb h0,mM (by omega)];by_cases e:(v:Int)=i
  ·rw[Xb (by omega),Xb e];subst e;rw[Xo]
  ·rw[Xa (by omega),Xa e,Int.add_zero]
 ·rw[Xa h0,Xa (by omega),Int.add_zero]
set_option maxHeartbeats 1600000 in
theorem qgi(L:List Int)(n g:Nat)(i b:Int)(w:World)(hn:L.length=n)(h:qk w g L)(hl:n<=1000)(hs:∀x ∈L,-1000<=x/\x<=1000)(hb: -1000<=b/\b<=1000):
  Calls Tryz.prog 150 #[.slice (some ⟨g,0,none⟩) n n,.int .i64 i,.int .i64 b] w fun e w'=>e= .returned (.tuple #[])/\qk w' g (ZE L i b)/\w.grownBy w' (some g):=by
 by_cases h0:i<0
 ·have e:ZE L i b=L:=by unfold ZE;rw[Xa (by omega)]
  rw[e];have H:=zH h;have hi2:¬0<=i:=by omega
  clear h e;go_enter Tryz.func150,Tryz.ntmps150;go_wp2_with fail
  go_end0
  exact⟨rfl,H.out,World.grownBy.refl _ _⟩
 ·obtain⟨k,rfl⟩:=Xj (show 0<=i by omega);by_cases h1:k<n
  ·have hk:k<L.length:=by omega
   have hc:=h.at_ hk;have hf:=zm.free h k;have e:ZE L (k:Int) b=L.set k (oN L k+b):=by unfold ZE;rw[Xb ⟨by omega,by omega⟩,Xo]
   rw[e];have hx:=hs _ (Xd hk);rw[<-VG hk]at hx;have HI:=zH (IntWalk.i64_in (oN L k+b) ⟨by omega,by omega⟩);have H:=zH (h.set (t:=k) (oN L k+b));generalize oN L k=x at*
   have hkj:(k:Int)<(n:Int):=by omega
   have hH:=HI.out;clear h e hs hb;go_enter Tryz.func150,Tryz.ntmps150;go_wp2_with fail
   go_end0
   exact⟨rfl,H.out,q8d _ _ _ _⟩
  ·have e:ZE L (k:Int) b=L:=by unfold ZE;rw[Xa (by omega)]
   rw[e];have H:=zH h;have hkj:¬(k:Int)<(n:Int):=by omega
   clear h e;go_enter Tryz.func150,Tryz.ntmps150;go_wp2_with fail
   go_end0
   exact⟨rfl,H.out,World.grownBy.refl _ _⟩
theorem q01{L L':List Int}{n g:Nat}{i b:Int}{w:World}(hn:Hid (L.length=n))(h:Hid (qk w g L))(hl:Hid (n<=1000))(hs:Hid (∀x ∈L,-1000<=x/\x<=1000))(hb:Hid (-1000<=b/\b<=1000))(hr:Hid (ZE L i b=L')):
  Calls Tryz.prog 150 #[.slice (some ⟨g,0,none⟩) n n,.int .i64 i,.int .i64 b] w fun e w'=>e= .returned (.tuple #[])/\qk w' g L'/\w.grownBy w' (some g):=by
 have H:=qgi L n g i b w hn.out h.out hl.out hs.out hb.out;rw[hr.out]at H;exact H
section
variable{m:za}{h:zh}{w0 w:World}{c:Int}
theorem q5k{L:List (Int×Int)}(HI:Hid (zr w0 w0.heap.size h m))(HX:Hid (Below w0.heap.size w0 w))(HL:Hid (qg m.classes c=L))(hn:m.classes.length<=1000)(HF:Hid (∀x ∈m.classes,x.fields.length<=1000)):
  Calls Tryz.prog 193 #[zv h m,.int .i64 c] w (eO L w):=by
 have H:=Q9 m c h w (HI.out.now HX.out) hn HF.out;rw[HL.out]at H;exact H
end
theorem qeb(m:za)(c:Int)(h:zh)(w:World)(H:zr w w.heap.size h m)(hn:m.classes.length<=1000)(hf:∀x ∈m.classes,x.fields.length<=1000):
  Calls Tryz.prog 183 #[zv h m,.int .i64 c] w fun e w'=>e= .returned (.int .i64 (1+((qg m.classes c).length:Int)))/\Below w.heap.size w w':=by
 have HW:=zH (zk (w:=w) (o:=(ze h m)));have zO:=zH (H.now HW.out);have HBX:=zH (qd w h m);have HF:=zH hf;have hL:=yK hf hn c;obtain⟨L,e⟩:=zj (qg m.classes c);rw[e]at hL⊢
 have HL:=zH e;clear e hf H;go_enter Tryz.func183,Tryz.ntmps183;go_upto_region 1 with fail
 generalize w.alloc (ze h m)=w1 at*
 obtain⟨q0,q1,q2,q3,q4,q5,q6⟩:=HBX.out;go_wp2_with(go_at_call 193;(with_reducible refine(q5k zO (zH (zb _ _)) HL hn HF).mono ?_);rintro e w2 ⟨v2,rfl,ho,hb⟩;have HB2:=zH hb;obtain⟨A2,c2,rfl,hl2,_⟩:=Yq ho;clear hb ho hl2)
 go_ret;exact⟨by first|rfl|simp,zD HW HB2⟩
def upW(O:List Int)(t:Int×Int×Int):Int:=if atI O t.2.1+t.2.2>oN O t.1.toNat then atI O t.2.1+t.2.2 else oN O t.1.toNat
def Bh(O:List Int)(t:Int×Int×Int):List Int:=O.set t.1.toNat (upW O t)
structure L6(l:List (Int×Int×Int))(n:Nat):Prop where
 src:∀t ∈l,0<=t.1/\t.1<n
 cost:∀t ∈l,0<=t.2.2/\t.2.2<=1000001
 none:∀t ∈l,t.2.1<0->t.2.2=0
structure mQ(l:List (Int×Int×Int))(n:Nat)(O:List Int)(K:Nat):Prop where
 len:O.length=n
 low:∀p,0<=oN O p
 top:∀p,oN O p<=(K:Int)*1000001
 want:∀p:Nat,oN O p≠0->∃(q:Nat) (c:Int),((p:Int),(q:Int),c) ∈l/\(q≠p\/0<c)/\oN O p<=oN O q+c
theorem LB(n p:Nat):oN (List.replicate n 0) p=0:=by
 unfold oN
 grind
section
variable{l:List (Int×Int×Int)}{n K:Nat}{O:List Int}
theorem mQ.start(l:List (Int×Int×Int))(n:Nat):mQ l n (List.replicate n 0) 0:=
 ⟨(by grind),fun p=>by rw[LB];omega,(by grind [LB]),(by grind [LB])⟩
theorem mQ.more(h:mQ l n O K){M:Nat}(hM:K<=M):mQ l n O M:=⟨h.len,h.low,fun p=>by have:=h.top p;omega,h.want⟩
theorem mQ.step(h:mQ l n O K)(hl:L6 l n){t:Int×Int×Int}(ht:t ∈l):mQ l n (Bh O t) (K+1):=by
 obtain⟨a,b,c⟩:=t;obtain⟨h1,h2⟩:=hl.src _ ht;obtain⟨h3,h4⟩:=hl.cost _ ht;have h5:=hl.none _ ht;dsimp only at h1 h2 h3 h4 h5;obtain⟨p,rfl⟩:=Xj h1;have hp:p<O.length:=by rw[h.len];omega
 by_cases hu:atI O b+c>oN O p;rotate_left
 ·have e:Bh O ((p:Int),b,c)=O:=by
   unfold Bh upW;dsimp only;rw[Xo,Xa hu,VG hp,List.set_getElem_self]
  rw[e];exact h.more (by omega)
 have e:Bh O ((p:Int),b,c)=O.set p (atI O b+c):=by
  unfold Bh upW
  grind
 have hb:¬b<0:=fun hb=>by
  have:=h5 hb;have e2:atI O b=0:=by unfold atI;omega
  have:=h.low p;omega
 obtain⟨q,rfl⟩:=Xj (show 0<=b by omega);rw[e];rw[qkd]at hu⊢
 obtain⟨v,hv⟩:=zj (oN O q+c);rw[hv]at hu⊢
 have hqt:=h.top q;have hat:∀x,oN (O.set p v) x=if x=p then v else oN O x:=fun x=>mM hp
 have hup:∀x,oN O x<=oN (O.set p v) x:=(by grind)
 refine⟨by rw[XH];exact h.len,fun x=>by have:=hup x;have:=h.low x;omega,fun x=> ?_,fun x hx=> ?_⟩
 ·rw[hat];split
  ·omega
  ·have:=h.top x;omega
 ·by_cases ex:x=p
  ·grind
  ·rw[hat x,Xa ex]at hx⊢
   obtain⟨q',c',g1,g2,g3⟩:=h.want x hx
   grind
end
def jA(t:Int×Int):List Int:=if t.1=3 then zG 3++zG t.2.toNat else zG t.1.toNat
def ZU(l:List (Int×Int)):List Int:=zG l.length++l.flatMap jA
abbrev vu(n:Int):List Int:=zG n.toNat
def Qr(l:List Int):List Int:=zG l.length++l.flatMap vu
theorem AJ{t:Int×Int}(h0:t.1<=9223372036854775807)(h1:t.2<=9223372036854775807):(jA t).length<=18:=by
 have l0:=vT (n:=t.1.toNat) (by omega);have l1:=vT (n:=t.2.toNat) (by omega);have l3:=vT (n:=3) (by omega);unfold jA
 grind
theorem uW{α:Type}{l:List α}{k:Nat}(f:α->List Int)(h:k<l.length):(l.take (k+1)).flatMap f=(l.take k).flatMap f++f l[k]:=by
 rw[Xx,Xc h]
 grind
theorem Jj{α:Type}{f:α->List Int}{c:Nat}:∀l:List α,(∀x ∈l,(f x).length<=c)->(l.flatMap f).length<=c*l.length
 | [],_=>by simp
 |x::r,h=>by
  have h1:=h x XV;have h2:=Jj r fun y hy=>h y (XY _ hy);rw[List.flatMap_cons,Xh,XI,Nat.mul_add];omega
theorem DV{w w1:World}{x y:Value}{T:TypeId}(hb:Below (w.alloc (.cells #[x,y] T)).heap.size (w.alloc (.cells #[x,y] T)) w1):
  w1.cell? ⟨w.heap.size,0,none⟩=some x/\w1.cell? ⟨w.heap.size,1,none⟩=some y:=by
 have hs:w.heap.size<(w.alloc (.cells #[x,y] T)).heap.size:=by simp
 refine⟨(hb.cell hs).trans ?_,(hb.cell hs).trans ?_⟩<;>(simp_all)
theorem PU{n:Int}{w0 w:World}(h1:n<=9223372036854775807)(HB:Hid (Below w0.heap.size w0 w)):
  Calls Tryz.prog 21 #[.int .i64 n] w fun e w'=>∃A c,e= .returned (.slice A (zG n.toNat).length c)/\(A=none->c=0)/\zw w' w'.heap.size A ((zG n.toNat).map (Value.int .u8))/\
   w'.ownsRow w0.heap.size 5 1 (.slice A (zG n.toNat).length c) (zG n.toNat).length ((zG n.toNat).map (Value.int .u8))/\Below w.heap.size w w':=by
 refine(Qj n h1 w).mono ?_;rintro e w' ⟨v,rfl,ho,hb⟩;obtain⟨A,c,rfl,hL,hA⟩:=De ho;exact⟨A,c,rfl,hA,hL,js ho HB.out.size,hb⟩
theorem UV(t:Int×Int)(h0:t.1<=9223372036854775807)(h1:t.2<=9223372036854775807)(w:World):Calls Tryz.prog 25 #[zF t.1 t.2] w (eP (jA t) w):=by
 obtain⟨i0,hi,hz0,hz1,hz2⟩:=info_parts mF;obtain⟨k,n⟩:=t;dsimp only at h0 h1⊢
 have HW:=zH (zk (w:=w) (o:=(.cells #[.int .i64 k,.int .i64 n] 45)));by_cases h3:k=3
 ·subst h3;have E:=zH (show jA (3,n)=zG (3:Int).toNat++zG n.toNat from Xb rfl);rw[E.out];have l3:=vT (n:=(3:Int).toNat) (by decide);have l1:=vT (n:=n.toNat) (by omega);generalize hY3:zG (3:Int).toNat=Y3 at*
  generalize hYn:zG n.toNat=Yn at*
  have H3:=zH hY3;have HN:=zH hYn;clear E hY3 hYn;obtain⟨q0,q1⟩:=DV (w:=w) (x:= .int .i64 3) (y:= .int .i64 n) (T:=45) (zb _ _).drew;have HC:Hid (Below (w.alloc (.cells #[.int .i64 3,.int .i64 n] 45)).heap.size (w.alloc (.cells #[.int .i64 3,.int .i64 n] 45)) (w.alloc (.cells #[.int .i64 3,.int .i64 n] 45)).drew):=zH (zb _ _).drew;have HS:Hid (w.heap.size<=(w.alloc (.cells #[.int .i64 3,.int .i64 n] 45)).heap.size):=zH (by simp);go_enter Tryz.func25,Tryz.ntmps25;go_wp2_with fail
  refine wp_region_noPanic ?_;refine wp_region_held_drew (S:=(fun w'=>w'.cell? ⟨w.heap.size,0,none⟩=some (.int .i64 3)/\w'.cell? ⟨w.heap.size,1,none⟩=some (.int .i64 n))) (by kernel_rfl) ⟨q0,q1⟩ (fun hHeld=> ?_);refine mT 1 (h:=mT 2 (h:= ?_));refine mR 0 (h:=fun K hK=> ?_);go_simp;(go_at_call 21;(with_reducible refine(PU (n:=3) (by decide) HC).mono ?_);rintro e w1 ⟨A1,k1,rfl,hA1,hL1,ho,hb⟩;rw[H3.out]at ho hL1⊢;have ZH:=zH ho;have HB1:=zH (HC.out.trans (hb.mono HC.out.size));obtain⟨q0,q1⟩:=DV HB1.out;clear ho hb hL1)
  refine mK hK ⟨q0,q1⟩ (h:=fun hHeld=> ?_);clear hK K;refine mR 3 (h:=fun K hK=> ?_);go_simp;(go_at_call 21;(with_reducible refine(PU (n:=n) h1 HB1).mono ?_);rintro e w2 ⟨A2,k2,rfl,hA2,hL2,ho,hb⟩;rw[HN.out]at ho hL2⊢;have qm:=kpO ZH hb;have HB2:=zH (HB1.out.trans (hb.mono HB1.out.size));have HL2:=zH hL2;have HA2:=zH hA2;obtain⟨q0,q1⟩:=DV HB2.out;clear ho hb hL2 hA2)
  refine mK hK ⟨q0,q1⟩ (h:=fun hHeld=> ?_);clear hK K;refine mR 4 (h:=fun K hK=> ?_)
  (refine qfs rfl _ _ 22 rfl (w.alloc (.cells #[.int .i64 3,.int .i64 n] 45)).heap.size 5 i0 (.int .u8 0) 1 Tryz.underlying22 hi hz0 hz1 hz2 rfl _ _ _ rfl qm.out A2 _ k2 _ (Yn.map (Value.int .u8)) (by simp) rfl HA2.out HL2.out (rC _) (by unfold maxLen;omega) (by omega) HB2.out.size ?_;intro v3 w3 hown hgrow;obtain⟨ho,hb⟩:=AP HB2.out qm.out HB2.out.size hown hgrow;rw[<-Xh]at ho;have qa:=zH ho;have HB3:=zH hb;obtain⟨q0,q1⟩:=DV HB3.out;clear hown hgrow ho hb)
  refine mK hK ⟨q0,q1⟩ (h:=fun hHeld=> ?_);clear hK K;refine mT 5 (h:= ?_);refine wpAnyH_done (by kernel_rfl) ?_ _;refine NoPanic.normal ?_;go_wp2
  go_ret;exact⟨_,rfl,js qa.out HS.out,HW.out.trans (HB3.out.mono HS.out)⟩
 ·have E:=zH (show jA (k,n)=zG k.toNat from Xa h3);rw[E.out];go_enter Tryz.func25,Tryz.ntmps25;go_wp2_with(go_at_call 21;(with_reducible refine(Qj k h0 _).mono ?_);rintro e w' ⟨v,rfl,ho,hb⟩)
  go_ret;exact⟨v,rfl,js ho HW.out.size,HW.out.trans (hb.mono HW.out.size)⟩
theorem q3u(l:List (Int×Int))(A:Option Addr)(cap B:Nat)(w:World)(hl:l.length<=10000)(hv:∀t ∈l,t.1<=9223372036854775807/\t.2<=9223372036854775807)(hB:B<=w.heap.size)(h:zd zf 2 w B A cap l):
  Calls Tryz.prog 22 #[.slice A l.length cap] w (eP (ZU l) w):=by
 obtain⟨i0,hi,hz0,hz1,hz2⟩:=info_parts mF;have HL:=zH h;have HB:=zH hB;have HV:=zH hv;have hlen:∀k,((l.take k).flatMap jA).length<=18*l.length:=fun k=>Xe (Jj (c:=18) _ (by grind [Wl,AJ])) (by grind);have l9:=vT (n:=(l.length:Int).toNat) (by omega);obtain⟨Y0,hY0⟩:∃Y,zG (l.length:Int).toNat=Y:=⟨_,rfl⟩
 rw[hY0]at l9;have H0:=zH hY0;have E:Hid (ZU l=Y0++l.flatMap jA):=zH (by rw[<-hY0];unfold ZU;grind);rw[E.out];clear h hB hv hY0;go_enter Tryz.func22,Tryz.ntmps22;go_wp2_with(go_at_call 21;(with_reducible refine(Qj (l.length:Int) (by omega) _).mono ?_);rintro e w1 ⟨v1,rfl,ho,hb⟩;rw[H0.out]at ho;have ZH:=zH ho;have HB1:=zH hb;clear ho hb)
 go_loopw [3,4] (fun v i wr=>∃k:Nat,k<=l.length/\i= .int .i64 k/\Hid (wr.ownsRow w.heap.size 5 1 v (Y0++(l.take k).flatMap jA).length ((Y0++(l.take k).flatMap jA).map (Value.int .u8)))/\Hid (Below w.heap.size w wr)) (fun _ i _=>l.length - (intOf i).toNat)
 case atStart=>grind
 case round=>
  obtain⟨k,hk,rfl,HO,HX⟩:=hrel;by_cases hlt:k<l.length
  ·obtain⟨ad,rfl,hab,q0,q1⟩:=(HL.out.below_to zf.keeps HX.out HB.out).row.at_ hlt;have T1:=zH (uW jA hlt);have M1:=zH (HV.out _ (Xd hlt));have hlk:=hlen k;generalize l[k]=x at*
   obtain⟨Z2,hZ2⟩:∃Z,jA x=Z:=⟨_,rfl⟩
   have FM:Z2.length<=18:=by rw[<-hZ2];exact AJ M1.out.1 M1.out.2
   have EZ:=zH hZ2;clear hZ2;have X1:(Y0++(l.take k).flatMap jA).length<=200000:=by grind
   go_wp2_with(first
    |(go_at_call 25;(with_reducible refine(UV x M1.out.1 M1.out.2 _).mono ?_);rintro e w2 ⟨v2,rfl,ho,hb⟩;rw[EZ.out]at ho;obtain⟨A2,k2,rfl,hL2,hA2⟩:=De ho;have HL2:=zH hL2;have HA2:=zH hA2;have qm:=kpO HO hb;have HX2:=zH (HX.out.trans (hb.mono HX.out.size));clear ho hb hL2 hA2)
    |(at_builtin;refine IR rfl _ _ 22 rfl w.heap.size 5 i0 (.int .u8 0) 1 Tryz.underlying22 hi hz0 hz1 hz2 rfl _ _ _ rfl qm.out A2 _ k2 _ (Z2.map (Value.int .u8)) (by simp) rfl HA2.out HL2.out (rC _) (by unfold maxLen;omega) (by omega) HX2.out.size ?_;intro v3 w3 hown hgrow;obtain⟨ho,hb⟩:=AP HX2.out qm.out HX2.out.size hown hgrow;rw[<-Xh]at ho;have qa:=zH ho;have zp:=zH hb;clear hown hgrow ho hb))
   go_roundw;case rel=>exact⟨k+1,by omega,by go_num,by rw[T1.out,EZ.out,<-XT];exact qa,zp⟩
   case measure=>simp[intOf];omega
  ·have T1:=zH (show(l.take k).flatMap jA=l.flatMap jA by rw[XA (by omega)]);rw[T1.out]at HO;go_wp2_with fail
   go_ret;exact⟨_,rfl,HO.out,HX.out⟩
theorem q3w(l:List Int)(A:Option Addr)(cap B:Nat)(w:World)(hl:l.length<=10000)(hv:∀t ∈l,t<=9223372036854775807)(hB:B<=w.heap.size)(h:zd zu 1 w B A cap l):
  Calls Tryz.prog 23 #[.slice A l.length cap] w (eP (Qr l) w):=by
 obtain⟨i0,hi,hz0,hz1,hz2⟩:=info_parts mF;have HL:=zH h;have HB:=zH hB;have HV:=zH hv;have hlen:∀k,((l.take k).flatMap vu).length<=18*l.length:=fun k=>Xe (Jj (c:=18) _ (by grind [Wl,Xe,vT])) (by grind);have l9:=vT (n:=(l.length:Int).toNat) (by omega);obtain⟨Y0,hY0⟩:∃Y,zG (l.length:Int).toNat=Y:=⟨_,rfl⟩
 rw[hY0]at l9;have H0:=zH hY0;have E:Hid (Qr l=Y0++l.flatMap vu):=zH (by rw[<-hY0];unfold Qr;grind);rw[E.out];clear h hB hv hY0;go_enter Tryz.func23,Tryz.ntmps23;go_wp2_with(go_at_call 21;(with_reducible refine(Qj (l.length:Int) (by omega) _).mono ?_);rintro e w1 ⟨v1,rfl,ho,hb⟩;rw[H0.out]at ho;have ZH:=zH ho;have HB1:=zH hb;clear ho hb)
 go_loopw [3,4] (fun v i wr=>∃k:Nat,k<=l.length/\i= .int .i64 k/\Hid (wr.ownsRow w.heap.size 5 1 v (Y0++(l.take k).flatMap vu).length ((Y0++(l.take k).flatMap vu).map (Value.int .u8)))/\Hid (Below w.heap.size w wr)) (fun _ i _=>l.length - (intOf i).toNat)
 case atStart=>grind
 case round=>
  obtain⟨k,hk,rfl,HO,HX⟩:=hrel;by_cases hlt:k<l.length
  ·obtain⟨ad,rfl,hab,q0⟩:=(HL.out.below_to zu.keeps HX.out HB.out).row.at_ hlt;rw[Xq]at q0;have T1:=zH (uW vu hlt);have M1:=zH (HV.out _ (Xd hlt));have hlk:=hlen k;generalize l[k]=x at*
   have r0:wr.cell? (ad.add k)=some (.int .i64 x):=q0;obtain⟨Z2,hZ2⟩:∃Z,vu x=Z:=⟨_,rfl⟩
   have FM:Z2.length<=9:=by rw[<-hZ2];exact vT (by have:=M1.out;omega)
   have EZ:=zH hZ2;clear hZ2;have X1:(Y0++(l.take k).flatMap vu).length<=200000:=by rw[Xh];omega
   go_wp2_with(first
    |(go_at_call 21;(with_reducible refine(Qj x M1.out _).mono ?_);rintro e w2 ⟨v2,rfl,ho,hb⟩;rw[show zG x.toNat=Z2 from EZ.out]at ho;obtain⟨A2,k2,rfl,hL2,hA2⟩:=De ho;have HL2:=zH hL2;have HA2:=zH hA2;have qm:=kpO HO hb;have HX2:=zH (HX.out.trans (hb.mono HX.out.size));clear ho hb hL2 hA2)
    |(at_builtin;refine IR rfl _ _ 22 rfl w.heap.size 5 i0 (.int .u8 0) 1 Tryz.underlying22 hi hz0 hz1 hz2 rfl _ _ _ rfl qm.out A2 _ k2 _ (Z2.map (Value.int .u8)) (by simp) rfl HA2.out HL2.out (rC _) (by unfold maxLen;omega) (by omega) HX2.out.size ?_;intro v3 w3 hown hgrow;obtain⟨ho,hb⟩:=AP HX2.out qm.out HX2.out.size hown hgrow;rw[<-Xh]at ho;have qa:=zH ho;have zp:=zH hb;clear hown hgrow ho hb))
   go_roundw;case rel=>exact⟨k+1,by omega,by go_num,by rw[T1.out,EZ.out,<-XT];exact qa,zp⟩
   case measure=>simp[intOf];omega
  ·have T1:=zH (show(l.take k).flatMap vu=l.flatMap vu by rw[XA (by omega)]);rw[T1.out]at HO;go_wp2_with fail
   go_ret;exact⟨_,rfl,HO.out,HX.out⟩
theorem qaf(n:Int)(h₀:0<=n)(h₁:n<2 ^ 62):IntKind.i64.wrap n=n:=by rw[IntKind.wrap_i64];omega
theorem qjm(k N c:Nat)(hk:k<5)(hN:N<128 ^ k):bits .or .i64 (N:Int) ((c:Int) % 128*2 ^ (7*k))=((N+128 ^ k*(c % 128):Nat):Int):=by
 have hp:(128:Nat) ^ k=2 ^ (7*k):=by rw[Nat.pow_mul]
 have hpk:(128:Nat) ^ k<=128 ^ 4:=Nat.pow_le_pow_right (by decide) (by omega);have e:(c:Int) % 128*2 ^ (7*k)=((2 ^ (7*k)*(c % 128):Nat):Int):=by
  rw[Int.natCast_mul,Int.mul_comm];simp
 have hle:2 ^ (7*k)*(c % 128)<=128 ^ 4*127:=by
  rw[<-hp];exact Nat.mul_le_mul hpk (by omega)
 rw[e,(bits_nat .i64 62 (by decide) qaf N (2 ^ (7*k)*(c % 128)) (by omega) (by omega)).2,Nat.or_comm,<-Nat.two_pow_add_eq_or_of_lt (by omega),hp];congr 1;omega
theorem qke(c:Int)(h0:0<=c)(h1:c<=255):bits .and .u8 c 127=c % 128:=
 bits_mask .u8 8 (by decide) wraps_u8 7 (by decide) c h0 (by omega)
theorem LA(k N:Nat)(c:Int)(h0:0<=c)(h1:c<=255)(hk:k<5)(hN:N<128 ^ k):
  bits .or .i64 (N:Int) (wrap64 (wrap64 (bits .and .u8 c 127)*2 ^ (7*k)))=((N+128 ^ k*(c.toNat % 128):Nat):Int):=by
 have w1:wrap64 (c % 128)=c % 128:=by unfold wrap64;omega
 have hp:(2:Int) ^ (7*k)<=2 ^ 28:=by
  have:(2:Nat) ^ (7*k)<=2 ^ 28:=Nat.pow_le_pow_right (by decide) (by omega)
  exact_mod_cast this
 have hq:(0:Int)<=2 ^ (7*k):=Int.pow_nonneg (by decide);have m0:0<=c % 128*2 ^ (7*k):=Int.mul_nonneg (by omega) hq;have m1:c % 128*2 ^ (7*k)<=127*2 ^ 28:=Int.mul_le_mul (by omega) hp hq (by decide);have w2:wrap64 (c % 128*2 ^ (7*k))=c % 128*2 ^ (7*k):=by
  generalize c % 128*2 ^ (7*k)=z at*
  unfold wrap64;omega
 rw[qke c h0 h1,w1,w2];obtain⟨n,rfl⟩:=Xj h0;simpa using qjm k N n hk hN
theorem qgb(k N c:Nat)(h:N<128 ^ k):N+128 ^ k*(c % 128)<128 ^ (k+1):=by
 rw[Nat.pow_succ];have:128 ^ k*(c % 128)<=128 ^ k*127:=Nat.mul_le_mul_left _ (by omega);omega
set_option maxRecDepth 1000000 in
set_option maxHeartbeats 1600000 in
theorem Kg(l:List Int)(A:Option Addr)(cap B:Nat)(w:World)(hl:l.length<=cap)(hm:cap<=9223372036854775807)(hr:∀b ∈l,0<=b/\b<=255)(h:zw w B A (l.map (Value.int .u8))):
  Calls Tryz.prog 124 #[.slice A l.length cap] w (IsPair (vt l) w):=by
 have HL:=zH h;have HR:=zH hr;have hmx:(max 5 0:Int)=5:=by decide
 clear h hr;have h5:l.length<5\/(5<=l.length/\5<=cap):=by omega
 rcases h5 with h5|⟨h5,h5'⟩
 all_goals
  go_enter Tryz.func124,Tryz.ntmps124;go_wp2
  all_goals
   go_loop [2,12] (fun n i=>∃k N:Nat,k<=5/\k<=l.length/\i= .int .i64 k/\n= .int .i64 N/\Hid (N<128 ^ k)/\Hid (vt l=Jq (5 - k) k N (128 ^ k) (l.drop k))) (fun _ i=>5 - (intOf i).toNat)
   case atStart=>exact⟨0,0,by omega,by omega,rfl,rfl,zH (by omega),zH rfl⟩
   case round=>
    obtain⟨k,N,hk,hkl,rfl,rfl,Fy,HN⟩:=hrel;by_cases h5:k<5/\k<l.length
    ·obtain⟨g5,gl⟩:=h5;obtain⟨ad,rfl,_,hc⟩:=HL.out.at_ (k:=k) (by simpa using gl);obtain⟨b0,b1⟩:=HR.out l[k] (Xd gl);have E1:=zH (Wq gl);simp only[List.getElem_map]at hc;generalize l[k]=b at*
     obtain⟨c,rfl⟩:=Xj b0;have E2:=zH (show 5 - k=(5 - (k+1))+1 by omega);have STEP:Hid (vt l=if c<128 then(if 0<k/\c=0 then(0,0)else(N+128 ^ k*(c % 128),k+1))else Jq (5 - (k+1)) (k+1) (N+128 ^ k*(c % 128)) (128 ^ k*128) (l.drop (k+1))):=by
      have:=HN.out;rw[E1.out,E2.out]at this;simp only[Jq,Xo]at this;refine zH (this.trans ?_);by_cases h1:c<128
      ·rw[Xb h1,Xb (by omega)];by_cases h2:0<k/\c=0
       ·rw[Xb h2,Xb (by omega)]
       ·rw[Xa h2,Xa (by omega)]
      ·rw[Xa h1,Xa (by omega)]
     clear E1 E2;by_cases h1:c<128
     ·by_cases h2:0<k/\c=0
      ·obtain⟨h2,rfl⟩:=h2;have R:=zH (show vt l=(0,0)by rw[STEP.out];simp[h2]);clear STEP;go_wp2_with fail
       go_ret2
       refine⟨?_,rfl⟩;rw[R.out];rfl
      ·have R:=zH (show vt l=(N+128 ^ k*(c % 128),k+1)by rw[STEP.out,Xb h1,Xa h2]);have OR:=zH (LA k N c b0 b1 g5 Fy.out);clear STEP;by_cases h3:0<k
       ·have h4:¬c=0:=fun h=>h2 ⟨h3,h⟩;clear h2;have h5:((c:Int)==0)=false:=by simpa using h4
        go_wp2_with fail
        go_ret2
        refine⟨?_,rfl⟩;rw[R.out,OR.out];simp
       ·clear h2;go_wp2_with fail
        all_goals
         go_ret2
         refine⟨?_,rfl⟩;first
          |(rw[R.out,OR.out];simp;done)
          |(have h0:c=0:=by assumption
            rw[R.out,LA k N 0 (by decide) (by decide) g5 Fy.out,h0];simp)
     ·have R:=zH (show vt l=Jq (5 - (k+1)) (k+1) (N+128 ^ k*(c % 128)) (128 ^ k*128) (l.drop (k+1))by rw[STEP.out,Xa h1]);have OR:=zH (LA k N c b0 b1 g5 Fy.out);clear STEP;go_wp2_with fail
      go_round
      case rel=>exact⟨k+1,N+128 ^ k*(c % 128),by omega,by omega,by go_num,by rw[OR.out];rfl,zH (qgb k N c Fy.out),zH (by rw[R.out,Nat.pow_succ])⟩
      case measure=>simp[intOf];omega
    ·have Z:Hid (vt l=(0,0)):=by
      refine zH (HN.out.trans ?_);rcases Xl k 5 with h|h
      ·rw[Wm (by omega)];cases 5 - k<;>rfl
      ·have:5 - k=0:=by omega
       rw[this];cases l.drop k<;>rfl
     have h6:k=5\/l.length=k:=by omega
     clear h5;go_wp2_with fail
     all_goals
      go_ret2
      refine⟨?_,rfl⟩;rw[Z.out];rfl
