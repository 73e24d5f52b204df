import Derived.Test.YtdbfllajopcccaaGreatFA41
import Derived.Test.YtdbfllajopcccaaGreatFA27
import Derived.Test.YtdbfllajopcccaaGreatFA39
import Derived.Test.YtdbfllajopcccaaGreatFA09
namespace Go.Proofs.YtdbfllajopcccaaGreat
set_option maxRecDepth 100000
set_option linter.unusedVariables false
set_option linter.unusedSimpArgs false
open Go.ChangeShapes Go.WideShapes Go.ChangeAt Go.RowKit
theorem qoj(pc op a:Int):(qE pc op a).length≤2:=by
 unfold qE
 repeat' split
 all_goals simp
theorem qba(m:za)(f pc:Int)(st:List (Int×Int)):(zK m f pc st).next.length≤2:=by
 unfold zK;split
 ·split
  ·unfold qr
   repeat' split
   all_goals first|exact Nat.zero_le _|exact qoj _ _ _
  ·exact Nat.zero_le _
 ·exact Nat.zero_le _
theorem qf7(m:za)(f:Nat)(x:ze)(S:List zu)(pc:Nat):(kO m f x S pc).length≤2:=by
 unfold kO;split
 ·split
  ·simp
  ·rw[List.length_map];exact qba _ _ _ _
 ·exact Nat.zero_le _
theorem qey(m:za)(f:Nat)(x:ze)(S:List zu)(pc:Nat):(jl m f x S pc).length≤1+2*pc:=by
 induction pc with
 |zero=>exact zn _
 |succ pc ih=>
  unfold jl;rw[List.length_append];have:=qf7 m f x S pc;omega
theorem ql2{m:za}{l:List (List zu)}{f:Int}{A:Option Addr}{c k:Nat}{h:zl}{w0 w:World}{R:List Inq}(HI:Hid (zp w0 w0.heap.size h m))(HX:Hid (Below w0.heap.size w0 w))(HS:Hid (vc m=true))(HT:Hid (qM m w A c l))(HK:Hid (l.length=k))(HR:Hid (vB m l f=R)):
  Calls Tryz.prog 14 #[zr h m,.slice A k c,.int .i64 f] w fun e w'=>∃A' c',e= .returned (.slice A' R.length c')∧zd JO 2 w' w'.heap.size A' c' R∧Below w.heap.size w w':=by
 obtain rfl:=HK.out;have H:=qh0 m l f A c h w (HI.out.now HX.out) HS.out HT.out;rw[HR.out]at H;exact H
theorem qkk{m:za}{h:zl}{f pc:Int}{st L:List (Int×Int)}{NL:List Int}{er:Int}{A:Option Addr}{cap n:Nat}{w0 w:World}(HI:Hid (zp w0 w0.heap.size h m))(HX:Hid (Below w0.heap.size w0 w))(HM:Hid (zP m))(HN:Hid (st.length=n))(HS:Hid (zd zi 2 w w.heap.size A cap st))(hs:n≤4000)(HR:Hid (zK m f pc st=⟨L,NL,er⟩)):
  Calls Tryz.prog 16 #[zr h m,.int .i64 f,.int .i64 pc,.slice A n cap] w fun e w'=>∃A c A' c',e= .returned (.tuple #[.slice A L.length c,.slice A' NL.length c',.int .i64 er])∧zd zo 1 w' w'.heap.size A' c' NL∧Below w.heap.size w w'∧∀ad,A'=some ad→w.heap.size≤ad.block:=by
 obtain rfl:=HN.out;have H:=q4n m f pc st A cap h w (HI.out.now HX.out) HM.out HS.out hs;rw[HR.out]at H;refine H.mono ?_;rintro e w' ⟨A1,c1,A2,c2,h1,_,h3,h4,h5⟩;exact⟨A1,c1,A2,c2,h1,h3,h4,h5⟩
theorem qi5{w w9:World}{o:Obj}{A:Option Addr}{c:Nat}{L:List Int}{v:Value}(h:zd zo 1 w w.heap.size A c L)(hg:(w.alloc o).grownBy w9 v.ownBlock)(hne:∀g,v.ownBlock=some g→∀ad,A=some ad→g≠ad.block):zd zo 1 w9 w9.heap.size A c L:=
 ⟨h.le,h.cap,fun i x hi=>by
  obtain⟨ad,e,hb,hc⟩:=h.row i x hi;have h1:(w.alloc o).heap[ad.block]? =w.heap[ad.block]? :=Below.heap_alloc w o _ hb;have h2:w9.heap[ad.block]? =(w.alloc o).heap[ad.block]? :=hg.block ad.block (by simp;omega) (fun e'=>hne _ e'.symm ad e rfl);have hz:=hg.size;refine⟨ad,e,by simp at hz;omega,?_⟩;exact(World.cell?_of_block (w:=w) (by rw[zt];exact h2.trans h1)).trans hc⟩
theorem qgl{L:List Int}{x:Int}{A B:Option Addr}{c d n:Nat}{w:World}(HL:Hid (zd zo 1 w w.heap.size A c L))(HM:Hid (zd zo 1 w w.heap.size B d L))(HN:Hid (L.length=n)):
  Calls Tryz.prog 17 #[.agg #[.slice A L.length c,.int .i64 x],.agg #[.slice B n d,.int .i64 x]] w fun e w'=>e= .returned (.bool true)∧Below w.heap.size w w':=by
 obtain rfl:=HN.out;have H:=qf1 L L x x A B c d w HL.out HM.out;have e:VC (L,x) (L,x)=true:=by unfold VC;simp
 rw[e]at H;exact H
set_option maxHeartbeats 12800000 in
theorem qea(m:za)(f:Int)(h:zl)(w:World)(H:zp w w.heap.size h m):
  Calls Tryz.prog 5 #[zr h m,.int .i64 f] w fun e w'=>e= .returned (.bool true)∧Below w.heap.size w w':=by
 have HW:=zH (ko (w:=w) (h:=h) (m:=m));have HBX:=zH (qf w h m);have HZ:Hid (w.heap.size<(w.alloc (zq h m)).heap.size):=zH (by simp);have HI:=zH (H.now HW.out);have hle:=H.methods.le;have hcap:=H.methods.cap;clear H;obtain⟨A0,Ab,A2,A3,A4,k0,k1,k2,k3,k4⟩:=h;dsimp only at hle hcap;go_enter Tryz.func5,Tryz.ntmps5;go_upto_region 1 with fail
 generalize w.alloc (zq ⟨A0,Ab,A2,A3,A4,k0,k1,k2,k3,k4⟩ m)=w1 at*
 obtain⟨q0,q1,q2,q3,q4,q5,q6⟩:=HBX.out;have HX:Hid (Below w1.heap.size w1 w1):=zH (zb _ _);go_upto_region 2 with(go_at_call 8;(with_reducible refine(VW HI HX).mono ?_);rintro e w2 ⟨Al,nl,cl,ok,rfl,hb,hyes⟩;have HX2:=zH (HX.out.trans (hb.mono HX.out.size));have HYES:=zH hyes;clear hb hyes)
 clear q0 q1 q2 q3 q4 q5 q6;obtain⟨q0,q1,q2,q3,q4,q5,q6⟩:=HBX.out.keep HX2.out HZ.out;dsimp only at q0 q1 q2 q3 q4 q5 q6;cases ok
 ·go_wp2_with(go_at_call 9;(with_reducible refine(kh _).mono ?_);rintro e w3 ⟨rfl,hb⟩;have HX3:=zH (HX2.out.trans (hb.mono HX2.out.size));clear hb)
  go_ret;exact⟨by first|rfl|simp,HW.out.trans (HX3.out.mono (Nat.le_of_lt HZ.out))⟩
 obtain⟨hs,l,hn,ht⟩:=HYES.out rfl;have HS:=zH hs;have HM:=zH (Qh hs);have HT:=zH ht;have HLL:Hid (l.length=nl):=zH (by rw[ht.2.2.1,hn]);have HLM:Hid (l.length=m.methods.length):=zH ht.2.2.1;obtain⟨R,hr⟩:∃z,vB m l f=z:=⟨_,rfl⟩
 have HR:=zH hr;clear hs ht hr HYES;subst hn;go_upto_region 5 with(go_at_call 14;(with_reducible refine(ql2 HI HX2 HS HT HLL HR).mono ?_);rintro e w3 ⟨Ag,cg,rfl,hg,hb⟩;have HX3:=zH (HX2.out.trans (hb.mono HX2.out.size));have HT3:=zH (HT.out.now hb);have HG:=zH hg;clear hb hg)
 clear q0 q1 q2 q3 q4 q5 q6;obtain⟨q0,q1,q2,q3,q4,q5,q6⟩:=HBX.out.keep HX3.out HZ.out;dsimp only at q0 q1 q2 q3 q4 q5 q6;have hgl:=HG.out.le;have hgc:=HG.out.cap;by_cases hf0:f<0
 ·have HN:Hid (R=[]):=zH (by rw[←HR.out];unfold vB;rw[if_neg (by omega)]);have hR0:R.length=0:=by rw[HN.out];rfl
  have hre:((R.length:Int)==0)=true:=by rw[hR0];rfl
  rw[hR0];clear hR0 hre;go_wp2_with(go_at_call 9;(with_reducible refine(kh _).mono ?_);rintro e w4 ⟨rfl,hb⟩;have HX4:=zH (HX3.out.trans (hb.mono HX3.out.size));clear hb)
  go_ret;exact⟨by first|rfl|simp,HW.out.trans (HX4.out.mono (Nat.le_of_lt HZ.out))⟩
 by_cases hf1:f ≥ (m.methods.length:Int)
 ·have HN:Hid (R=[]):=zH (by rw[←HR.out];unfold vB;rw[if_neg (by omega)]);have hR0:R.length=0:=by rw[HN.out];rfl
  rw[hR0];clear hR0;go_wp2_with(go_at_call 9;(with_reducible refine(kh _).mono ?_);rintro e w4 ⟨rfl,hb⟩;have HX4:=zH (HX3.out.trans (hb.mono HX3.out.size));clear hb)
  go_ret;exact⟨by first|rfl|simp,HW.out.trans (HX4.out.mono (Nat.le_of_lt HZ.out))⟩
 obtain⟨k,rfl⟩:=Int.eq_ofNat_of_zero_le (show 0≤f by omega);have hlt:k<m.methods.length:=by omega
 have hkl:k<l.length:=by rw[HLM.out];exact hlt
 have hki0:¬(k:Int)<0:=by omega
 obtain⟨adM,rfl,habM,A1,c1,r0,hsr⟩:=HT3.out.1.row.at_ hkl;obtain⟨ad,hx,eA,hab,hin,hcm⟩:=jB HI.out hlt;dsimp only at eA;subst eA;have HXM:Hid (m.methods[k] ∈m.methods):=zH (List.getElem_mem hlt);have hmN:zm m (k:Int)=m.methods[k]:=by unfold zm;rw[Int.toNat_natCast,List.getElem?_eq_getElem hlt];rfl
 have HFS:=zH (HT3.out.2.2.2 k l[k] (List.getElem?_eq_getElem hkl));have HMN:=zH hmN;have HRR:Hid (R=jl m k m.methods[k] l[k] m.methods[k].code.length):=zH (by
  rw[←HR.out];unfold vB;rw[if_pos ⟨by omega,by omega⟩,hmN,Int.toNat_natCast,List.getElem?_eq_getElem hkl];rfl)
 clear hmN;generalize m.methods[k]=x at*
 generalize l[k]=S at*
 obtain⟨c0,c1',c2,c3,c4,c5,c6,c7⟩:=hcm.keep HX3.out (by rw[zt];exact hab);have hcp:x.code.length=x.phi.length∧0<x.code.length:=by have:=(HM.out.method HXM.out);exact⟨this.ph.symm,this.cp⟩
 obtain⟨n,hn⟩:∃n,x.code.length=n:=⟨_,rfl⟩
 have HNN:=zH hn;have hpn:x.phi.length=n:=by omega
 have hn0:0<n:=by omega
 have hn64:n≤64:=by have:=(HM.out.method HXM.out).fits.cl;omega
 have hcl:=hin.code.le;have hcc:=hin.code.cap;rw[hn]at c4 hcl;rw[hpn]at c7;have HCR:=zH hin.code.row;obtain⟨xA0,xA1,xA4,xA7,kx0,kx1,kx4,kx7⟩:=hx;dsimp only at c0 c1' c4 c7 hcl hcc HCR;obtain⟨ac,rfl,hab2,hcz⟩:=HCR.out.at_ (show 0<x.code.length by omega);clear hcz;have hpot:=(HM.out.method HXM.out).fits.p1;have HX4:Hid (Below w1.heap.size w1 (w3.alloc (.cells #[.slice xA0 x.args.length kx0,.slice xA1 x.locals.length kx1,.int .i64 x.ret.1,.int .i64 x.ret.2,.slice (some ac) n kx4,.int .i64 x.depth,.int .i64 x.pot,.slice xA7 n kx7] 42))):=zH (HX3.out.alloc HX3.out.size _);have H34:Hid (Below w3.heap.size w3 (w3.alloc (.cells #[.slice xA0 x.args.length kx0,.slice xA1 x.locals.length kx1,.int .i64 x.ret.1,.int .i64 x.ret.2,.slice (some ac) n kx4,.int .i64 x.depth,.int .i64 x.pot,.slice xA7 n kx7] 42))):=zH ((zb _ _).alloc (zn _) _);have HXB:=zH (zf.new w3 [.slice xA0 x.args.length kx0,.slice xA1 x.locals.length kx1,.int .i64 x.ret.1,.int .i64 x.ret.2,.slice (some ac) n kx4,.int .i64 x.depth,.int .i64 x.pot,.slice xA7 n kx7] 42);rw[HNN.out]at HRR;clear hcp hin hcm hn hpn hf0 hf1;go_upto_region 8 with fail
 have HXB:Hid (zf (w3.alloc (.cells #[.slice xA0 x.args.length kx0,.slice xA1 x.locals.length kx1,.int .i64 x.ret.1,.int .i64 x.ret.2,.slice (some ac) n kx4,.int .i64 x.depth,.int .i64 x.pot,.slice xA7 n kx7] 42)) w3.heap.size [.slice xA0 x.args.length kx0,.slice xA1 x.locals.length kx1,.int .i64 x.ret.1,.int .i64 x.ret.2,.slice (some ac) n kx4,.int .i64 x.depth,.int .i64 x.pot,.slice xA7 n kx7] 42):=HXB;obtain⟨w4,hw4⟩:∃z,w3.alloc (.cells #[.slice xA0 x.args.length kx0,.slice xA1 x.locals.length kx1,.int .i64 x.ret.1,.int .i64 x.ret.2,.slice (some ac) n kx4,.int .i64 x.depth,.int .i64 x.pot,.slice xA7 n kx7] 42)=z:=⟨_,rfl⟩
 rw[hw4]at HX4 HXB H34⊢
 have HN4:Hid (w3.heap.size<w4.heap.size):=zH (by rw[←hw4];simp);clear hw4;obtain⟨N,hN⟩:∃z,w3.heap.size=z:=⟨_,rfl⟩
 rw[hN]at HXB HN4⊢
 have HNE:=zH hN;clear hN q0 q1 q2 q3 q4 q5 q6 c0 c1' c2 c3 c4 c5 c6 c7;have b4:=HXB.out.cells 4 _ rfl;have b6:=HXB.out.cells 6 _ rfl;have HRL:=zH (q51 n (-1) 0 x.pot w4 (by omega) (by omega) (by omega));go_upto_region 9 with(go_at_call 15;go_loud (refine HRL.out.mono ?_);rintro e w5 ⟨g0,rfl,hg0,hr0,hb⟩;have HG0:=zH hg0;have HR0:=zH hr0;have HB5:=zH hb;clear hg0 hr0 hb)
 have HB4:Hid (w4.heap.size≤w5.heap.size):=zH HB5.out.size;have HR1:Hid (jE (w5.alloc (.cells #[.slice (some ⟨g0,0,none⟩) n n,.int .i64 x.pot] 49)) w4.heap.size (.slice (some ⟨w5.heap.size,0,none⟩) 1 1) n [g0] (jl m k x S 0)):=zH (by
  have:=jE.one (w:=w5) (B:=w4.heap.size) (n:=n) (g:=g0) (q:=qN n (-1) 0 x.pot) ⟨HG0.out,HR0.out⟩ (by rw[q5j,kL]) HB4.out;unfold jl;rw[HNN.out];exact this)
 have HY6:Hid (Below w4.heap.size w4 (w5.alloc (.cells #[.slice (some ⟨g0,0,none⟩) n n,.int .i64 x.pot] 49))):=zH (HB5.out.alloc HB4.out _);generalize w5.alloc (.cells #[.slice (some ⟨g0,0,none⟩) n n,.int .i64 x.pot] 49)=w6 at*
 generalize w5.heap.size=N5 at*
 have HS4:=zH HX4.out.size;have HSR:=zH hsr;have hS1:=hsr.le;have hS2:=hsr.cap;have hSl:S.length=n:=by rw[HFS.out.grow.len,HMN.out,HNN.out]
 rw[hSl]at hS1 r0;rw[Nat.mul_one]at r0;have HSL:=zH hSl;have HK:Hid (∀W,Below w4.heap.size w4 W→(fun w'=>w'.cell? ⟨w.heap.size,0,none⟩=some (.slice A0 m.classes.length k0)∧w'.cell? ⟨w.heap.size,1,none⟩=some (.slice Ab m.statics.length k1)∧w'.cell? ⟨w.heap.size,2,none⟩=some (.slice A2 m.ints.length k2)∧w'.cell? ⟨w.heap.size,3,none⟩=some (.slice (some ad) m.methods.length k3)∧w'.cell? ⟨w.heap.size,4,none⟩=some (.slice A4 m.entries.length k4)∧w'.cell? ⟨w.heap.size,5,none⟩=some (.int .i64 m.stack)∧w'.cell? ⟨w.heap.size,6,none⟩=some (.int .i64 m.heap)) W∧W.cell? (adM.add k)=some (.slice A1 n c1)∧W.cell? ⟨N,4,none⟩=some (.slice (some ac) n kx4)):=zH (fun W hW=>by
  have hW1:=HX4.out.trans (hW.mono HS4.out);have hW3:=H34.out.trans (hW.mono (by rw[HNE.out];exact Nat.le_of_lt HN4.out));obtain⟨d0,d1,d2,d3,d4,d5,d6⟩:=HBX.out.keep hW1 HZ.out;exact⟨⟨d0,d1,d2,d3,d4,d5,d6⟩,(hW3.cell (p:=adM.add k) (by rw[zt];exact habM)).trans r0,(hW.cell (p:=⟨N,4,none⟩) HN4.out).trans (HXB.out.cells 4 _ rfl)⟩)
 clear hsr r0 hSl b4 b6 HG0 HR0 HB5 HRL;obtain⟨i0,hi,hz0,hz1,hz2⟩:=jg q9e;go_wp2_with fail
 go_loopw [9,10] (fun v i wr=>∃(pc g9 c9 nn:Nat) (gs:List Nat),pc≤n∧i= .int .i64 pc∧v= .slice (some ⟨g9,0,none⟩) nn c9∧Hid ((jl m k x S pc).length=nn)∧Hid (jE wr w4.heap.size (.slice (some ⟨g9,0,none⟩) nn c9) n gs (jl m k x S pc))∧Hid (Below w4.heap.size w4 wr)) (fun _ i _=>n - (intOf i).toNat)
 case atStart=>exact⟨0,N5,1,1,[g0],Nat.zero_le _,rfl,rfl,zH rfl,HR1,HY6⟩
 case round=>
  clear HR1 HY6;obtain⟨pc,g9,c9,nn,gs,hpc,rfl,rfl,HNL,HQ,HY⟩:=hrel;obtain⟨⟨q0,q1,q2,q3,q4,q5,q6⟩,rM,b4⟩:=HK.out _ HY.out;by_cases hpn:pc<n;rotate_left
  ·have hpi:¬(pc:Int)<(n:Int):=by omega
   obtain rfl:n=pc:=by omega
   have hnn:R.length=nn:=by rw[HRR.out];exact HNL.out
   subst hnn;rw[←HRR.out]at HQ;have hrn:((R.length:Int) !=(R.length:Int))=false:=by simp
   have H3Y:Hid (Below w3.heap.size w3 wr):=zH (H34.out.trans (HY.out.mono (by rw[HNE.out];exact Nat.le_of_lt HN4.out)));have HGY:=zH (Ja JO.keeps HG.out H3Y.out);have hm1:=HGY.out.le;go_wp2_with fail
   clear q0 q1 q2 q3 q4 q5 q6 rM b4;have HY0:Hid (Below wr.heap.size wr wr):=zH (zb _ _);obtain⟨wq,hwq⟩:∃z,wr=z:=⟨_,rfl⟩
   rw[hwq]at HGY HY0 HQ HY⊢
   clear hwq;go_loopw [15] (fun i wr=>∃j:Nat,j≤R.length∧i= .int .i64 j∧Hid (Below wq.heap.size wq wr)) (fun i _=>R.length - (intOf i).toNat)
   case atStart=>exact⟨0,Nat.zero_le _,rfl,HY0⟩
   case round=>
    clear HY0;obtain⟨j,hj,rfl,HZ6⟩:=hrel;have HXZ:=zH (HX4.out.trans ((HY.out.trans (HZ6.out.mono HY.out.size)).mono HS4.out));by_cases hjr:j<R.length;rotate_left
    ·have hji:¬(j:Int)<(R.length:Int):=by omega
     go_wp2_with(go_at_call 9;(with_reducible refine(kh _).mono ?_);rintro e w9 ⟨rfl,hb⟩;have HX9:=zH (HXZ.out.trans (hb.mono HXZ.out.size));clear hb)
     go_ret;exact⟨by first|rfl|simp,HW.out.trans (HX9.out.mono (Nat.le_of_lt HZ.out))⟩
    have hji:(j:Int)<(R.length:Int):=by omega
    obtain⟨adG,rfl,habG,⟨AG,cG,v0,hsG⟩,v1⟩:=HGY.out.row.at_ hjr;have hRj:R[j]? =some R[j]:=List.getElem?_eq_getElem hjr;obtain⟨gq,e0,e1,hnq,hnl,hg9,hgq⟩:=HQ.out.at_ hRj;generalize R[j]=q at*
    have HKQ:Hid (∀W,Below wq.heap.size wq W→(fun w'=>w'.cell? (adG.add (j*2))=some (.slice AG q.1.length cG)∧w'.cell? (zc (adG.add (j*2)) 1)=some (.int .i64 q.2)∧w'.cell? ⟨g9,j*2,none⟩=some (.slice (some ⟨gq,0,none⟩) n n)∧w'.cell? ⟨g9,j*2+1,none⟩=some (.int .i64 q.2)) W):=zH (fun W hW=>
     ⟨(hW.cell (p:=adG.add (j*2)) (by rw[zt];exact habG)).trans v0,(hW.cell (p:=zc (adG.add (j*2)) 1) (by show(adG.add _).block<_;rw[zt];exact habG)).trans v1,(hW.cell (p:=⟨g9,j*2,none⟩) hg9).trans e0,(hW.cell (p:=⟨g9,j*2+1,none⟩) hg9).trans e1⟩)
    have HZD:Hid (Below wq.heap.size wq wr.drew):=zH HZ6.out.drew;have HL1:=zH (Ja zo.keeps hsG HZD.out);have HL2:=zH (Ja zo.keeps (hnq.slc hnl (by omega)) HZD.out);have HNL2:=zH hnl;have hg1:=hsG.le;have hg2:=hsG.cap;clear v0 v1 e0 e1 hsG hnq hnl;go_wp2_with fail
    go_region_held3 (fun w'=>w'.cell? (adG.add (j*2))=some (.slice AG q.1.length cG)∧w'.cell? (zc (adG.add (j*2)) 1)=some (.int .i64 q.2)∧w'.cell? ⟨g9,j*2,none⟩=some (.slice (some ⟨gq,0,none⟩) n n)∧w'.cell? ⟨g9,j*2+1,none⟩=some (.int .i64 q.2)) (first|exact HKQ.out _ HZD.out|exact HKQ.out _ HZ8.out) (first|(go_at_call 17;(with_reducible refine(qgl HL1 HL2 HNL2).mono ?_);rintro e w8 ⟨rfl,hb⟩;have HZ8:=zH (HZD.out.trans (hb.mono HZD.out.size));clear hb))
    rename_i hHeld;clear hHeld;go_wp2_with fail
    go_roundw;case rel=>exact⟨j+1,by omega,by go_num,HZ8⟩
    case measure=>simp[intOf];omega
  have hpi:(pc:Int)<(n:Int):=by omega
  obtain⟨adS,eS,habS,u0,Ast,cst,u1,hu⟩:=HSR.out.row.at_ (show pc<S.length by rw[HSL.out];exact hpn);subst eS;have hNp:zv S (pc:Int)=S[pc]'(by rw[HSL.out];exact hpn):=QC (by rw[HSL.out];exact hpn)
  have hst1:(S[pc]'(by rw[HSL.out];exact hpn)).stack.length≤8:=HFS.out.grow.small _ (List.getElem_mem _);generalize S[pc]'(by rw[HSL.out];exact hpn)=s at*
  have HNP:=zH hNp;have HU:=zH hu;have HKP:Hid (∀W,Below w4.heap.size w4 W→W.cell? (adS.add (pc*2))=some (.bool s.seen)∧W.cell? (zc (adS.add (pc*2)) 1)=some (.slice Ast s.stack.length cst)):=zH (fun W hW=>by
   have hW3:=H34.out.trans (hW.mono (by rw[HNE.out];exact Nat.le_of_lt HN4.out));exact⟨(hW3.cell (p:=adS.add (pc*2)) (by rw[zt];exact habS)).trans u0,(hW3.cell (p:=zc (adS.add (pc*2)) 1) (by show(adS.add _).block<_;rw[zt];exact habS)).trans u1⟩)
  clear u0 u1 hu hNp;obtain⟨u0,u1⟩:=HKP.out _ HY.out;by_cases hse:s.seen=true;rotate_left
  ·have hse':s.seen=false:=by simpa using hse
   have HSM:Hid (jl m k x S (pc+1)=jl m k x S pc):=zH (by
    show jl m k x S pc++kO m k x S pc=_;unfold kO;rw[HNP.out,hse',if_neg (by decide),List.append_nil])
   go_wp2_with fail
   go_roundw;case rel=>exact⟨pc+1,g9,c9,nn,gs,by omega,by go_num,rfl,by rw[HSM.out];exact HNL,by rw[HSM.out];exact HQ,HY⟩
   case measure=>simp[intOf];omega
  have HSE:=zH hse;obtain⟨⟨L,NL,er⟩,hrs⟩:∃r,zK m (k:Int) (pc:Int) s.stack=r:=⟨_,rfl⟩
  have HRS:=zH hrs;have hnx:qh m k S pc=NL:=by unfold qh;rw[HNP.out,hrs]
  have HNXT:=zH hnx;have HXD:Hid (Below w1.heap.size w1 wr.drew):=zH (HX4.out.trans (HY.out.mono HS4.out)).drew;have HYD:Hid (Below w4.heap.size w4 wr.drew):=zH HY.out.drew;have H3D:Hid (Below w3.heap.size w3 wr):=zH (H34.out.trans (HY.out.mono (by rw[HNE.out];exact Nat.le_of_lt HN4.out)));have HSD:=zH (q34 zi.keeps (js zi.keeps HU.out H3D.out));have hst4:s.stack.length≤4000:=Nat.le_trans hst1 (by decide);have HQD:=zH (HQ.out.keep (zb _ _).drew);have HKA:Hid (∀W,Below w4.heap.size w4 W→(fun w'=>w'.cell? ⟨w.heap.size,0,none⟩=some (.slice A0 m.classes.length k0)∧w'.cell? ⟨w.heap.size,1,none⟩=some (.slice Ab m.statics.length k1)∧w'.cell? ⟨w.heap.size,2,none⟩=some (.slice A2 m.ints.length k2)∧w'.cell? ⟨w.heap.size,3,none⟩=some (.slice (some ad) m.methods.length k3)∧w'.cell? ⟨w.heap.size,4,none⟩=some (.slice A4 m.entries.length k4)∧w'.cell? ⟨w.heap.size,5,none⟩=some (.int .i64 m.stack)∧w'.cell? ⟨w.heap.size,6,none⟩=some (.int .i64 m.heap)∧w'.cell? (adM.add k)=some (.slice (some adS) n c1)∧w'.cell? (zc (adS.add (pc*2)) 1)=some (.slice Ast s.stack.length cst)) W):=zH (fun W hW=>by
   obtain⟨⟨d0,d1,d2,d3,d4,d5,d6⟩,rM',_⟩:=HK.out W hW;exact⟨d0,d1,d2,d3,d4,d5,d6,rM',(HKP.out W hW).2⟩)
  clear hrs hnx;go_wp2_with fail
  clear u0 u1 q0 q1 q2 q3 q4 q5 q6 rM b4;go_region_held3 (fun w'=>w'.cell? ⟨w.heap.size,0,none⟩=some (.slice A0 m.classes.length k0)∧w'.cell? ⟨w.heap.size,1,none⟩=some (.slice Ab m.statics.length k1)∧w'.cell? ⟨w.heap.size,2,none⟩=some (.slice A2 m.ints.length k2)∧w'.cell? ⟨w.heap.size,3,none⟩=some (.slice (some ad) m.methods.length k3)∧w'.cell? ⟨w.heap.size,4,none⟩=some (.slice A4 m.entries.length k4)∧w'.cell? ⟨w.heap.size,5,none⟩=some (.int .i64 m.stack)∧w'.cell? ⟨w.heap.size,6,none⟩=some (.int .i64 m.heap)∧w'.cell? (adM.add k)=some (.slice (some adS) n c1)∧w'.cell? (zc (adS.add (pc*2)) 1)=some (.slice Ast s.stack.length cst)) (first|exact HKA.out _ HYD.out|exact HKA.out _ HY6.out) (first|(go_at_call 16;(with_reducible refine(qkk HI HXD HM (zH rfl) HSD hst4 HRS).mono ?_);rintro e w7 ⟨A7,c7,A8,c8,rfl,hs8,hb,hnew⟩;have H8:=zH hs8;have HNW:=zH hnew;have HX6:=zH (HXD.out.trans (hb.mono HXD.out.size));have HY6:=zH (HYD.out.trans (hb.mono HYD.out.size));have HQ7:=zH (HQD.out.keep hb);clear hs8 hb hnew))
  rename_i hHeld;clear hHeld;have hm1:=H8.out.le;have hm2:=H8.out.cap;have hpx:pc<x.code.length:=by rw[HNN.out];exact hpn
  obtain⟨⟨op,a,bb⟩,hi0⟩:∃i,x.code[pc]? =some i:=⟨_,List.getElem?_eq_getElem hpx⟩
  have him:=List.mem_of_getElem? hi0;have HIN:Hid (∀t ∈NL,0≤t∧t<(n:Int)):=zH (fun t ht=>by
   by_cases her:er=0
   ·have hgx:m.methods[k]? =some x:=by
     have e1:=HMN.out;unfold zm at e1;rw[Int.toNat_natCast,List.getElem?_eq_getElem hlt,Option.getD_some]at e1;rw[List.getElem?_eq_getElem hlt,e1]
    have hxm:=HM.out.method HXM.out;have e1:=Jw (st:=s.stack) hgx hi0;rw[HRS.out]at e1;have h1:=Vv (m:=m) (st:=s.stack) (F:=0) (hxm.fits.ct _ him) (hxm.co _ him) (by rw[←e1];exact her);rw[←e1]at h1;have:=h1 t ht;rw[HNN.out]at this;exact this
   ·have h1:=qbb (m:=m) (f:=(k:Int)) (pc:=(pc:Int)) (st:=s.stack) (by rw[HRS.out];exact her);rw[HRS.out]at h1;dsimp only at h1;rw[h1]at ht;cases ht)
  have hrl:=qey m k x S pc;rw[HNL.out]at hrl;have hB7:=HX6.out.size;have HS7:=zH HY6.out.size;by_cases hL0:NL.length=0
  ·have HPR:Hid (jl m k x S (pc+1)=jl m k x S pc++[qN n (pc:Int) (-1) 0]):=zH (by
    show jl m k x S pc++kO m k x S pc=_;unfold kO;rw[HNP.out,if_pos HSE.out,HNXT.out,if_pos (List.eq_nil_of_length_eq_zero hL0),HNN.out])
   have HRL:=zH (q51 n (pc:Int) (-1) 0 w7 (by omega) (by omega) (by omega));obtain⟨_,_,b4⟩:=HK.out _ HY6.out;rw[hL0];clear hL0 hi0 him hpx;go_upto_region 16 with(first|(go_at_call 15;(refine HRL.out.mono ?_);rintro e w8 ⟨gr,rfl,hg8,hr8,hb⟩;have HR8:=zH hr8;have HY8:=zH (HY6.out.trans (hb.mono HY6.out.size));have HQ8:=zH (HQ7.out.keep hb);have HG8:Hid (w4.heap.size≤gr):=zH (Nat.le_trans HY6.out.size hg8);have HQR:=zH (HQ8.out.row' HNL.out);have hz8:=HY8.out.size;clear hg8 hr8 hb)|(at_builtin;(refine wpList_append_lies _ rfl _ _ 46 rfl w4.heap.size 49 i0 (.agg #[.slice none 0 0,.int .i64 0]) 2 32 Tryz.underlying46 hi hz0 hz1 hz2 rfl (by decide) _ _ _ rfl (HQR.out.alloc _) ⟨_,0,none⟩ 1 1 (kY n gr 0) rfl rfl (q67 _ _ _ _) (q5u _ _ _) (by decide) (by unfold maxLen;omega) (by omega) (by simp;omega) _ rfl ?_);intro g10 c10 w10 hown hgrow hor hlt10;have HQ10:=zH (HQ8.out.app HNL.out (q:=qN n (pc:Int) (-1) 0) ⟨HG8.out,HR8.out⟩ (by rw[q5j,kL]) hown hgrow);have HY10:=zH (qA (HY8.out.alloc hz8 _) (HQR.out.alloc _) (by simp;omega) hgrow);clear hown hgrow hor hlt10))
   go_wp2_with fail
   obtain⟨wq,hwq⟩:∃z,w10=z:=⟨_,rfl⟩
   rw[hwq]at HQ10 HY10⊢
   clear hwq;go_loopw [9,14] (fun v i wr=>v= .slice (some ⟨g10,0,none⟩) (nn+1) c10∧i= .int .i64 0∧wr=wq) (fun _ _ _=>0)
   case atStart=>exact⟨rfl,rfl,rfl⟩
   case round=>
    obtain⟨rfl,rfl,hwr⟩:=hrel;obtain rfl:=hwr.symm;go_wp2_with fail
    go_roundw;case rel=>exact⟨pc+1,g10,c10,nn+1,_,by omega,by go_num,by first|rfl|trivial|simp,zH (by rw[HPR.out,List.length_append,HNL.out];rfl),by rw[HPR.out];exact HQ10,HY10⟩
    case measure=>simp[intOf];omega
  have hne0:((NL.length:Int)==0)=false:=beq_eq_false_iff_ne.mpr (by omega);obtain⟨ac',eC,hac,i1',i2',i3'⟩:=HCR.out.at_ hpx;injection eC with eC;subst eC;have hix:x.code[pc]=(op,a,bb):=by
   have:=hi0;rw[List.getElem?_eq_getElem hpx]at this;exact Option.some.inj this
  rw[hix]at i1' i2' i3';obtain⟨cv,hv⟩:∃v,jx m op a bb=v:=⟨_,rfl⟩
  have HV:=zH hv;have HIC:=zH him;have hvs:=q1i HM.out HXM.out him;rw[hv]at hvs;have hcp:qs m x pc=cv:=by unfold qs;rw[hi0];exact hv
  have HPR:Hid (jl m k x S (pc+1)=jl m k x S pc++NL.map (fun q=>qN n (pc:Int) q (-cv))):=zH (by
   show jl m k x S pc++kO m k x S pc=_;unfold kO;rw[HNP.out,if_pos HSE.out,HNXT.out,if_neg (fun e=>hL0 (by rw[e];rfl)),HNN.out,hcp])
  have HKC:Hid (∀W,Below w4.heap.size w4 W→W.cell? (ac.add (pc*3))=some (.int .i64 op)∧W.cell? (zc (ac.add (pc*3)) 1)=some (.int .i64 a)∧W.cell? (zc (ac.add (pc*3)) 2)=some (.int .i64 bb)):=zH (fun W hW=>by
   have hW1:=HX4.out.trans (hW.mono HS4.out);exact⟨(hW1.cell (p:=ac.add (pc*3)) (by rw[zt];exact hac)).trans i1',(hW1.cell (p:=zc (ac.add (pc*3)) 1) (by show(ac.add _).block<_;rw[zt];exact hac)).trans i2',(hW1.cell (p:=zc (ac.add (pc*3)) 2) (by show(ac.add _).block<_;rw[zt];exact hac)).trans i3'⟩)
  have hng:=IntWalk.i64_in (-cv) ⟨by omega,by omega⟩;have hNL2:NL.length≤2:=by
   have:=qba m (k:Int) (pc:Int) s.stack;rw[HRS.out]at this;exact this
  have HQD0:=HQD;clear i1' i2' i3' hi0 him hix hv hcp hpx hL0 HQ;go_wp2_with fail
  have HNE9:Hid (∀ad,A8=some ad→g9≠ad.block):=zH (fun ad e q=>by
   have h1:=HNW.out ad e;have h2:=qi HQD0.out.row g9 rfl;omega)
  have HQ7':Hid (jE w7 w4.heap.size (.slice (some ⟨g9,0,none⟩) nn c9) n gs (jl m k x S pc++(NL.take 0).map (fun q=>qN n (pc:Int) q (-cv)))):=zH (by rw[List.take_zero,List.map_nil,List.append_nil];exact HQ7.out);go_loopw [9,14] (fun v i wi=>∃(j g9 c9:Nat) (gs:List Nat),j≤NL.length∧i= .int .i64 j∧v= .slice (some ⟨g9,0,none⟩) (nn+j) c9∧Hid (jE wi w4.heap.size (.slice (some ⟨g9,0,none⟩) (nn+j) c9) n gs (jl m k x S pc++(NL.take j).map (fun q=>qN n (pc:Int) q (-cv))))∧Hid (Below w4.heap.size w4 wi)∧Hid (zd zo 1 wi wi.heap.size A8 c8 NL)∧Hid (∀ad,A8=some ad→g9≠ad.block)) (fun _ i _=>NL.length - (intOf i).toNat)
  case atStart=>exact⟨0,g9,c9,gs,Nat.zero_le _,rfl,rfl,HQ7',HY6,H8,HNE9⟩
  case round=>
   clear HQ7 HQ7' HNE9 HQD HQD0 H8;obtain⟨j,h9,d9,gs2,hj,rfl,rfl,HQ,HYI,H8,HNE9⟩:=hrel;by_cases hjl:j<NL.length;rotate_left
   ·have hji:¬(j:Int)<(NL.length:Int):=by omega
    obtain rfl:j=NL.length:=by omega
    rw[List.take_length,←HPR.out]at HQ;go_wp2_with fail
    go_roundw;case rel=>exact⟨pc+1,h9,d9,nn+NL.length,gs2,by omega,by go_num,rfl,zH (by rw[HPR.out,List.length_append,List.length_map,HNL.out]),HQ,HYI⟩
    case measure=>simp[intOf];omega
   have hji:(j:Int)<(NL.length:Int):=by omega
   obtain⟨adN,rfl,habN,v0⟩:=H8.out.row.at_ hjl;rw[Nat.mul_one]at v0;obtain⟨n0,n1⟩:=HIN.out _ (List.getElem_mem hjl);have HTK:Hid (jl m k x S pc++(NL.take (j+1)).map (fun q=>qN n (pc:Int) q (-cv))=(jl m k x S pc++(NL.take j).map (fun q=>qN n (pc:Int) q (-cv)))++[qN n (pc:Int) NL[j] (-cv)]):=zH (by
    rw[List.take_add_one,List.getElem?_eq_getElem hjl,List.map_append,List.append_assoc];rfl)
   have HLT:Hid ((jl m k x S pc++(NL.take j).map (fun q=>qN n (pc:Int) q (-cv))).length=nn+j):=zH (by rw[List.length_append,List.length_map,List.length_take,HNL.out];omega);obtain⟨LN,hLN⟩:∃z,jl m k x S pc++(NL.take (j+1)).map (fun q=>qN n (pc:Int) q (-cv))=z:=⟨_,rfl⟩
   rw[hLN]at HTK;have HLNE:=zH hLN;clear hLN;generalize jl m k x S pc++(NL.take j).map (fun q=>qN n (pc:Int) q (-cv))=LO at*
   obtain⟨q,hq⟩:=Int.eq_ofNat_of_zero_le n0;have HTQ:=zH hq;rw[hq]at HTK v0 n1;clear n0 hq;have hqn:q<n:=by omega
   have hn1000:n≤1000:=by omega
   have HKS:Hid (∀W,Below w4.heap.size w4 W→W.cell? (adN.add j)=some (.int .i64 (q:Int))→(fun w'=>w'.cell? ⟨w.heap.size,0,none⟩=some (.slice A0 m.classes.length k0)∧w'.cell? ⟨w.heap.size,1,none⟩=some (.slice Ab m.statics.length k1)∧w'.cell? ⟨w.heap.size,2,none⟩=some (.slice A2 m.ints.length k2)∧w'.cell? ⟨w.heap.size,3,none⟩=some (.slice (some ad) m.methods.length k3)∧w'.cell? ⟨w.heap.size,4,none⟩=some (.slice A4 m.entries.length k4)∧w'.cell? ⟨w.heap.size,5,none⟩=some (.int .i64 m.stack)∧w'.cell? ⟨w.heap.size,6,none⟩=some (.int .i64 m.heap)∧w'.cell? ⟨N,4,none⟩=some (.slice (some ac) n kx4)∧w'.cell? (ac.add (pc*3))=some (.int .i64 op)∧w'.cell? (zc (ac.add (pc*3)) 1)=some (.int .i64 a)∧w'.cell? (zc (ac.add (pc*3)) 2)=some (.int .i64 bb)∧w'.cell? (adN.add j)=some (.int .i64 (q:Int))) W):=zH (fun W hW hc=>by
    obtain⟨⟨d0,d1,d2,d3,d4,d5,d6⟩,_,b4'⟩:=HK.out W hW;obtain⟨e0,e1,e2⟩:=HKC.out W hW;exact⟨d0,d1,d2,d3,d4,d5,d6,b4',e0,e1,e2,hc⟩)
   have HND:Hid (zd zo 1 wr.drew wr.drew.heap.size (some adN) c8 NL):=zH (Ja zo.keeps H8.out (zb _ _).drew);have HCN:Hid (∀W,zd zo 1 W W.heap.size (some adN) c8 NL→W.cell? (adN.add j)=some (.int .i64 (q:Int))):=zH (fun W hW=>by
    obtain⟨ad',e,_,hc⟩:=hW.row.at_ hjl;injection e with e;subst e;rw[Nat.mul_one,HTQ.out]at hc;exact hc)
   have HYD2:Hid (Below w4.heap.size w4 wr.drew):=zH HYI.out.drew;have HXD2:Hid (Below w1.heap.size w1 wr.drew):=zH (HX4.out.trans (HYI.out.mono HS4.out)).drew;have HQD2:=zH (HQ.out.keep (zb _ _).drew);have hjl2:=hjl;clear v0 HQ;go_wp2_with fail
   refine wp_region_noPanic ?_;refine wp_region_held_drew (S:=fun w'=>w'.cell? ⟨w.heap.size,0,none⟩=some (.slice A0 m.classes.length k0)∧w'.cell? ⟨w.heap.size,1,none⟩=some (.slice Ab m.statics.length k1)∧w'.cell? ⟨w.heap.size,2,none⟩=some (.slice A2 m.ints.length k2)∧w'.cell? ⟨w.heap.size,3,none⟩=some (.slice (some ad) m.methods.length k3)∧w'.cell? ⟨w.heap.size,4,none⟩=some (.slice A4 m.entries.length k4)∧w'.cell? ⟨w.heap.size,5,none⟩=some (.int .i64 m.stack)∧w'.cell? ⟨w.heap.size,6,none⟩=some (.int .i64 m.heap)∧w'.cell? ⟨N,4,none⟩=some (.slice (some ac) n kx4)∧w'.cell? (ac.add (pc*3))=some (.int .i64 op)∧w'.cell? (zc (ac.add (pc*3)) 1)=some (.int .i64 a)∧w'.cell? (zc (ac.add (pc*3)) 2)=some (.int .i64 bb)∧w'.cell? (adN.add j)=some (.int .i64 (q:Int))) (by kernel_rfl) (HKS.out _ HYD2.out (HCN.out _ HND.out)) (fun hHeld=> ?_);refine mT 0 (h:=mT 1 (h:=mT 2 (h:=mT 3 (h:=mT 4 (h:=mT 5 (h:=mT 6 (h:=mT 7 (h:= ?_))))))));refine mT 8 (h:=mT 9 (h:=mT 10 (h:=mT 11 (h:=mT 12 (h:=mT 13 (h:=mT 14 (h:= ?_)))))));refine wpAnyH_ready (rs:=[15]) (by kernel_rfl) (by simp) ?_;refine AllReadyH.cons (o:=_) rfl (fun K hK=> ?_) AllReadyH.nil;go_simp;go_at_call 13;(with_reducible refine(YU HI HXD2 HM HXM HIC HV).mono ?_);rintro e w8 ⟨rfl,hb⟩;have HY8:=zH (HYD2.out.trans (hb.mono HYD2.out.size));have HN8:=zH (Ja zo.keeps HND.out hb);have HQ8:=zH (HQD2.out.keep hb);clear hb
   refine hK.out _ _ (HKS.out _ HY8.out (HCN.out _ HN8.out)) (fun hHeld=> ?_);clear hK K;try simp only[sA,sB,sC,Act.put,sD,sE,sF]
   refine mT 16 (h:= ?_);refine wpAnyH_ready (rs:=[17]) (by kernel_rfl) (by simp) ?_;refine AllReadyH.cons (o:=_) rfl (fun K hK=> ?_) AllReadyH.nil;go_simp;go_at_call 15;(refine(q51 n (pc:Int) (q:Int) (-cv) _ hn1000 (by omega) (by omega)).mono ?_);rintro e w9 ⟨gr,rfl,hg8,hr8,hb⟩;have HR9:=zH hr8;have HY9:=zH (HY8.out.trans (hb.mono HY8.out.size));have HN9:=zH (Ja zo.keeps HN8.out hb);have HQ9:=zH (HQ8.out.keep hb);have HG9:Hid (w4.heap.size≤gr):=zH (Nat.le_trans HY8.out.size hg8);have HQR:=zH (HQ9.out.row' HLT.out);clear hg8 hr8 hb
   refine hK.out _ _ (HKS.out _ HY9.out (HCN.out _ HN9.out)) (fun hHeld=> ?_);clear hK K;try simp only[sA,sB,sC,Act.put,sD,sE,sF]
   refine wpAnyH_ready (rs:=[18]) (by kernel_rfl) (by simp) ?_;refine AllReadyH.cons (o:=_) rfl (fun K hK=> ?_) AllReadyH.nil;go_simp;have HY10:=zH (HY9.out.alloc HY9.out.size (.cells #[.slice (some ⟨gr,0,none⟩) n n,.int .i64 (-cv)] 49));have HN10:=zH (Ja zo.keeps HN9.out ((zb _ _).alloc (zn _) (.cells #[.slice (some ⟨gr,0,none⟩) n n,.int .i64 (-cv)] 49)));have hz9:=HY9.out.size;refine hK.out _ _ (HKS.out _ HY10.out (HCN.out _ HN10.out)) (fun hHeld=> ?_);clear hK K;try simp only[sA,sB,sC,Act.put,sD,sE,sF]
   refine wpAnyH_ready (rs:=[19]) (by kernel_rfl) (by simp) ?_;refine AllReadyH.cons (o:=_) rfl (fun K hK=> ?_) AllReadyH.nil;refine step_append_lies _ rfl _ _ 46 rfl w4.heap.size 49 i0 (.agg #[.slice none 0 0,.int .i64 0]) 2 32 Tryz.underlying46 hi hz0 hz1 hz2 rfl (by decide) _ _ _ rfl (HQR.out.alloc _) ⟨_,0,none⟩ 1 1 (kY n gr (-cv)) rfl rfl (q67 _ _ _ _) (q5u _ _ _) (by decide) (by unfold maxLen;omega) (by omega) (by simp;omega) _ rfl ?_;intro g11 c11 w11 hown hgrow hor hlt11;have HQ11:Hid (jE w11 w4.heap.size (.slice (some ⟨g11,0,none⟩) (nn+(j+1)) c11) n _ LN):=zH (by rw[HTK.out];exact HQ9.out.app HLT.out (q:=qN n (pc:Int) (q:Int) (-cv)) ⟨HG9.out,HR9.out⟩ (by rw[q5j,kL]) hown hgrow);have HY11:=zH (qA HY10.out (HQR.out.alloc _) (by simp;omega) hgrow);have HN11:Hid (zd zo 1 w11 w11.heap.size (some adN) c8 NL):=zH (qi5 HN9.out hgrow (fun g e ad ea=>by have e':some h9=some g:=e;injection e' with e';subst e';exact HNE9.out ad ea));have HE11:Hid (∀ad,(some adN:Option Addr)=some ad→g11≠ad.block):=zH (fun ad ea=>by rcases hor with e|e;{have e':some h9=some g11:=e;injection e' with e';subst e';exact HNE9.out ad ea};{obtain⟨ad',e1,e2,_⟩:=HN9.out.row.at_ hjl2;rw[e1]at ea;injection ea with ea;subst ea;simp at e;omega});clear hown hgrow hor hlt11;refine hK.out _ _ (HKS.out _ HY11.out (HCN.out _ HN11.out)) (fun hHeld=> ?_);clear hK K;try simp only[sA,sB,sC,Act.put,sD,sE,sF]
   refine mT 20 (h:= ?_);refine wpAnyH_done (by kernel_rfl) ?_ _;refine NoPanic.normal ?_;go_wp2_with fail
   go_roundw;case rel=>exact⟨j+1,g11,c11,_,by omega,by go_num,by first|rfl|trivial|(simp;omega),by rw[HLNE.out];exact HQ11,HY11,HN11,HE11⟩
   case measure=>simp[intOf];omega
end Go.Proofs.YtdbfllajopcccaaGreat
