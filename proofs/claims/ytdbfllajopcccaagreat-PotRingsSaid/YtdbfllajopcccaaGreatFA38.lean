import Derived.Test.YtdbfllajopcccaaGreatFA35
namespace Go.Proofs.YtdbfllajopcccaaGreat
set_option maxRecDepth 100000
set_option linter.unusedVariables false
set_option linter.unusedSimpArgs false
open Go.ChangeShapes Go.WideShapes Go.ChangeAt Go.RowKit
theorem q45{m x:za}{h:zl}(e:zC x=zC m):zr h x=zr h m:=by
 show Value.agg #[.slice h.A0 x.classes.length h.c0,.slice h.A1 x.statics.length h.c1,.slice h.A2 x.ints.length h.c2,.slice h.A3 x.methods.length h.c3,.slice h.A4 x.entries.length h.c4,.int .i64 x.stack,.int .i64 x.heap]=_;rw[Jp e,q38 e,q44 e,Qz e,q39 e,q3g e,q46 e]
theorem q3t{m x:za}{w:World}{A:Option Addr}{c:Nat}{l:List (List zu)}(h:qM m w A c l)(hb:zC x=zC m):qM x w A c l:=
 ⟨h.1,h.2.1,by rw[Qz hb];exact h.2.2.1,fun i S hS=>q18 hb (h.2.2.2 i S hS)⟩
def jv(A:Option Addr)(w w':World):Prop:=w.heap.size≤w'.heap.size∧∀b,b<w.heap.size→kR A b=false→w'.heap[b]? =w.heap[b]?
theorem jv.refl(A:Option Addr)(w:World):jv A w w:=⟨zn _,fun _ _ _=>rfl⟩
theorem jv.below{A:Option Addr}{w w1 w2:World}(h:jv A w w1)(hb:Below w1.heap.size w1 w2):jv A w w2:=⟨Nat.le_trans h.1 hb.size,fun b h1 h2=>(hb.block b (Nat.lt_of_lt_of_le h1 h.1)).trans (h.2 b h1 h2)⟩
theorem jv.set{A:Option Addr}{w w1:World}(h:jv A w w1){g i:Nat}{v:Value}(hg:A=some ⟨g,0,none⟩):jv A w (w1.setCell ⟨g,i,none⟩ v):=⟨by simpa using h.1,fun b h1 h2=>(Below.heap_setCell w1 ⟨g,i,none⟩ v b (fun e=>by
 have:=Qi.mp h2 _ hg;exact this e.symm)).trans (h.2 b h1 h2)⟩
theorem jv.whole{A:Option Addr}{w w1:World}(h:jv A w w1){b:Nat}{vs:List Value}{T:TypeId}(hw:zf w b vs T)(hb:kR A b=false):zf w1 b vs T:=(h.2 b (zf.lt hw) hb).trans hw
theorem jD.cell{w:World}{lo bs:Nat}{h:zl}{m:za}{zs:List (ze×zS)}(H:jD w lo bs h m zs){f g r:Nat}{z:ze×zS}{u:Value}(hg:h.A3=some ⟨g,0,none⟩)(hz:zs[f]? =some z)(hr:r<8)(hu:(jz z)[r]? =some u):w.cell? ⟨g,f*8+r,none⟩=some u∧w.frozen? ⟨g,f*8+r,none⟩=false:=by
 have hrow:=H.row;rw[hg]at hrow;exact⟨((kb hrow).2 _ u (by rw[JE hz hr];exact hu)).1,(kn hrow _).1⟩
theorem qod{w:World}{B:Nat}{v:Value}{L:List (Int×Int×Int)}(h:w.ownsRow B 78 3 v L.length (ZI L)):∃A c,v= .slice A L.length c∧zd qw 3 w w.heap.size A c L:=by
 rcases jA h with⟨rfl,hn⟩|⟨g,c,rfl,h1,h2⟩
 ·have:L=[]:=List.eq_nil_of_length_eq_zero hn;subst this;exact⟨none,0,rfl,ji⟩
 ·by_cases hp:0<L.length
  ·exact⟨_,_,rfl,(qll h hp).1⟩
  ·have:L=[]:=List.eq_nil_of_length_eq_zero (by omega);subst this;exact⟨_,_,rfl,⟨h1,h2,qt.nil⟩⟩
theorem qpg{w:World}{g i j:Nat}(h:i≠j)(v:Value):(w.setCell ⟨g,i,none⟩ v).cell? ⟨g,j,none⟩=w.cell? ⟨g,j,none⟩:=World.cell?_setCell_other w ⟨g,i,none⟩ ⟨g,j,none⟩ v (fun e=>by injection e with _ e2 _;exact h e2)
theorem qqz{l:List (List zu)}{x:za}{f:Nat}{y:ze}(h:kV x l f=y):{x with methods:=x.methods.set f y}=va l x f:=by unfold va Jh;rw[h]
theorem qqw{l:List (List zu)}{x:za}{f:Nat}{y:ze}(h:kV x l f=y)(hf:f<x.methods.length):{va l x f with methods:=(va l x f).methods.set f {y with pot:=zM y 0}}=JJ (va l x f) f:=by
 have e:zm (va l x f) (f:Int)=y:=by
  unfold va;rw[q1z hf,if_pos (Int.toNat_natCast _),h]
 unfold JJ Jh YG;rw[e]
theorem qls{w:World}{g n bs:Nat}{A:Option Addr}{O:List Int}(h:zZ w g O)(hn:O.length=n)(hl:n≤1000)(hA:vC bs A g=false):zd zo 1 (zW (vC bs A) w) w.heap.size (some ⟨g,0,none⟩) n O:=
 ⟨by omega,by omega,fun i x hi=>by
  obtain⟨ad,e,hb,hc⟩:=(h.slc hn hl).row i x hi;refine⟨ad,e,hb,QA.mpr ⟨?_,hc⟩⟩;cases e;rw[zt];exact hA⟩
theorem qpu{m x:za}{l:List (List zu)}{f:Nat}{y:ze}{A:Option Addr}{c:Nat}{h:zl}{w:World}{W:List (Int×Int×Int)}(e:Hid (zC x=zC m))(HI:Hid (zp w w.heap.size h x))(HM:Hid (zP x))(HT:Hid (qM m w A c l))(HGX:Hid (x.methods[f]? =some y))(HW:Hid (jw x l f=W)):
  Calls Tryz.prog 31 #[zr h m,.slice A l.length c,.int .i64 f] w fun e w'=>∃A' c',e= .returned (.slice A' W.length c')∧zd qw 3 w' w'.heap.size A' c' W∧Below w.heap.size w w':=by
 have H:=qa9 x l f y A c h w HI.out HM.out (q3t HT.out e.out) HGX.out;rw[HW.out,q45 e.out]at H;exact H.mono fun _ _ ⟨v,h1,h2,h3⟩=>by
  obtain⟨A',c',rfl,hs⟩:=qod h2;exact⟨A',c',h1,hs,h3⟩
theorem qoo{l:List (Int×Int×Int)}{n:Nat}{A:Option Addr}{c:Nat}{w:World}{O:List Int}(hl:Hid (zd qw 3 w w.heap.size A c l))(hn:Hid (n≤64∧l.length≤1000∧Zj l n))(hO:Hid (ZS l n=O)):
  Calls Tryz.prog 70 #[.slice A l.length c,.int .i64 n] w fun e w'=>∃g,e= .returned (.slice (some ⟨g,0,none⟩) n n)∧w.heap.size≤g∧zZ w' g O∧Below w.heap.size w w':=by
 have H:=qh9 l n A c w hl.out hn.out.1 hn.out.2.1 hn.out.2.2;rw[hO.out]at H;exact H
def qd5(m:za)(l:List (List zu))(D ring:List Nat)(lo bs:Nat)(h:zl)(w0 w:World)(e:Ending)(w':World):Prop:=
 ∃(r:Bool) (x:za) (zs:List (ze×zS)),e= .returned (.bool r)∧jD w' lo bs h x zs∧jv h.A3 w w'∧Below w0.heap.size w0 w'∧
  (r=true→∃D',jU m l D' x∧∀f,f ∈D'↔f ∈ring∨f ∈D)∧(r=false→∃y D',jU m l D' y∧∃f,f<m.methods.length∧QJ l y f=true)
set_option maxHeartbeats 12800000 in
theorem ql3(m x0:za)(l:List (List zu))(D ring:List Nat)(cyc:Bool)(h:zl)(zs:List (ze×zS))(lo bs:Nat)(AM AR:Option Addr)(cM cR:Nat)(w0 w:World)(hm:zP m)(HR:jD w lo bs h x0 zs)(hS:jU m l D x0)(hTY:qM m w0 AM cM l)(hX:Below w0.heap.size w0 w)(hlo:w0.heap.size≤lo)
  (hring:zz w w.heap.size AR (qg ring)) (hrc:ring.length≤cR∧cR≤9223372036854775807) (hin:∀f ∈ring,f<m.methods.length∧jX (jm m) m.methods.length f f=cyc) (hnod:ring.Nodup) (hdis:∀f ∈ring,f ∉D) (hAR:∀ad,AR=some ad→kR h.A3 ad.block=false):
  Calls Tryz.prog 39 #[zr h m,.slice AM l.length cM,.slice AR ring.length cR,.bool cyc] w (qd5 m l D ring lo bs h w0 w):=by
 have hW1:Below w.heap.size w (w.alloc (zq h m)):=(zb _ _).alloc (zn _) _;have HBX:Hid (zf (w.alloc (zq h m)) w.heap.size [.slice h.A0 m.classes.length h.c0,.slice h.A1 m.statics.length h.c1,.slice h.A2 m.ints.length h.c2,.slice h.A3 m.methods.length h.c3,.slice h.A4 m.entries.length h.c4,.int .i64 m.stack,.int .i64 m.heap] 28):=zH (zf.new w _ _);have HKA:Hid (jv h.A3 w (w.alloc (zq h m))):=zH ((jv.refl _ _).below hW1);have HR1:=zH (HR.keep hW1);have HX1:=zH (hX.trans (hW1.mono hX.size));have HN1:Hid (kR h.A3 w.heap.size=false):=zH (Qi.mpr fun ad e=>by have:=(HR.row.lt ad.block (by rw[e];rfl)).2;omega);have HRG:Hid (zz (w.alloc (zq h m)) w.heap.size AR (qg ring)):=zH (hring.below_to hW1 (zn _));have HAR:=zH hAR;have HIN:=zH hin;have HND:=zH (⟨hnod,hdis⟩:ring.Nodup∧∀f ∈ring,f ∉D);have HM:=zH hm;have HTY:=zH hTY;have HS:=zH hS;have HLO:=zH hlo;have HZW:Hid (w.heap.size<(w.alloc (zq h m)).heap.size):=zH (by simp);have hml:m.methods.length≤1000:=by have:=hm.fits.ml;omega
 have hr1:=hrc.1;have hr2:=hrc.2;have hc3:m.methods.length≤h.c3:=by have:=HR.image.methods.le;rw[Qz hS.alike]at this;exact this
 obtain⟨A0,A1,A2,A3,A4,k0,k1,k2,k3,k4⟩:=h;dsimp only at hc3 HBX HKA HN1 HAR;clear HR hS hTY hX hlo hring hin hnod hdis hAR hm hrc hW1;go_enter Tryz.func39,Tryz.ntmps39;go_upto_region 1 with fail
 generalize w.alloc (zq ⟨A0,A1,A2,A3,A4,k0,k1,k2,k3,k4⟩ m)=w1 at*
 go_wp2_with fail
 go_loopw [14] (fun i wr=>∃(k:Nat) (xk:za) (zk:List (ze×zS)),k≤ring.length∧i= .int .i64 k∧Hid (jD wr lo bs ⟨A0,A1,A2,A3,A4,k0,k1,k2,k3,k4⟩ xk zk)∧Hid (jU m l ((ring.take k).reverse++D) xk)∧Hid (jv A3 w1 wr)∧Hid (Below w0.heap.size w0 wr)) (fun i _=>ring.length - (intOf i).toNat)
 case atStart=>exact⟨0,x0,zs,Nat.zero_le _,rfl,HR1,HS,zH (jv.refl _ _),HX1⟩
 case round=>
  clear HR1 HS HX1;obtain⟨k,xk,zk,hk,rfl,HR,HS,HK,HX⟩:=hrel;by_cases hkr:k<ring.length;rotate_left
  ·obtain rfl:k=ring.length:=by omega
   rw[List.take_length]at HS;go_wp2_with fail
   go_ret;refine⟨true,xk,zk,rfl,HR.out,⟨Nat.le_trans HKA.out.1 HK.out.1,fun b h1 h2=>(HK.out.2 b (Nat.lt_of_lt_of_le h1 HKA.out.1) h2).trans (HKA.out.2 b h1 h2)⟩,HX.out,fun _=>⟨_,HS.out,fun f=>by simp⟩,fun e=>nomatch e⟩
  have hki:(k:Int)<(ring.length:Int):=by omega
  obtain⟨f,hf⟩:∃f,ring[k]=f:=⟨_,rfl⟩
  have hfm:f ∈ring:=by rw[←hf];exact List.getElem_mem hkr
  obtain⟨hfn,hcy⟩:=HIN.out f hfm;have hfD:f ∉(ring.take k).reverse++D:=by
   rw[List.mem_append,List.mem_reverse];rintro(hq|hq)
   ·obtain⟨i,hi,e⟩:=List.getElem_of_mem hq;rw[List.getElem_take]at e;rw[List.length_take]at hi;have:=(List.getElem_inj HND.out.1 (h₀:=by omega) (h₁:=hkr)).mp (e.trans hf.symm);omega
   ·exact HND.out.2 f hfm hq
  obtain⟨adR,hAe,habR,hcR⟩:=HRG.out k (.int .i64 (f:Int)) (by unfold qg;rw[List.getElem?_map,List.getElem?_eq_getElem hkr,hf];rfl);subst hAe;have hfx:f<xk.methods.length:=by rw[HS.out.len];exact hfn
  obtain⟨g,z,hA3,hlg,hgs,hfz,hz,hxz,hcz⟩:=HR.out.at_ hfx;dsimp only at hA3;subst hA3;have hzN:zm xk (f:Int)=z.1:=by have:=Qk hfx;rw[hxz]at this;injection this with this;exact this.symm
  have hz8:zk[f]? =some z:=hz;have hxm:=List.mem_of_getElem? hxz;have hsx:=HS.out.sane HM.out;have hn64:z.1.code.length≤64:=(hsx.method hxm).fits.cl;have hlL:l.length=m.methods.length:=HTY.out.2.2.1;have hlf:l[f]? =some l[f]:=List.getElem?_eq_getElem (by rw[hlL];exact hfn);have hwo:=q5x hsx hxz hlf (q18 HS.out.alike (HTY.out.2.2.2 f _ hlf));have hwl:(jw xk l f).length≤128:=by
   unfold jw;rw[hzN];have:=q24 xk f z.1 (l[f]?.getD []) (fun p=>q1h xk f _ p) z.1.code.length;omega
  obtain⟨n,hn⟩:∃n,z.1.code.length=n:=⟨_,rfl⟩
  rw[hn]at hwo hn64;obtain⟨WL,hWL⟩:∃W,jw xk l f=W:=⟨_,rfl⟩
  obtain⟨O,hO⟩:∃O,ZS WL n=O:=⟨_,rfl⟩
  have hOB:QJ l xk f=ZF O:=by unfold QJ ZF;rw[hzN,hn,hWL,hO]
  have hOl:O.length=n:=by rw[←hO];rw[hWL]at hwo;exact(q5t hwo).len
  rw[hWL]at hwo hwl;have HAL:=zH HS.out.alike;have HIM:=zH HR.out.image;have HSX:=zH hsx;have HTR:=zH (kx HTY.out HX.out);have HGX:=zH hxz;have HWL:=zH hWL;have HOO:=zH hO;have HWO:Hid (n≤64∧WL.length≤1000∧Zj WL n):=zH ⟨hn64,by omega,hwo⟩;have HPM:Hid (kV xk l f={z.1 with phi:=O}):=zH (by unfold kV;rw[hzN,hn,hWL,hO]);have HWX:Hid (Zj (jw xk l f) (zm xk (f:Int)).code.length):=zH (by rw[hzN,hn,hWL];exact hwo);have HOV:=zH hOB;have HOL:=zH hOl;have HFD:=zH hfD;have HFN:=zH hfn;have HCY:=zH hcy;have HZK:=zH hz8;have HZN:=zH hn;have hfi:(f:Int)<(m.methods.length:Int):=by omega
  have hcode:=hcz 4 (.slice z.2.A4 z.1.code.length z.2.k4) (by decide) rfl;rw[hn]at hcode;have hb:=HK.out.whole HBX.out HN1.out;have q0:=hb.cells 0 _ rfl;have q1:=hb.cells 1 _ rfl;have q2:=hb.cells 2 _ rfl;have q3:=hb.cells 3 _ rfl;have q4:=hb.cells 4 _ rfl;have q5:=hb.cells 5 _ rfl;have q6:=hb.cells 6 _ rfl;have hne:g≠w.heap.size:=Qi.mp HN1.out _ rfl;have HNE:=zH hne;have HGL:=zH (⟨hlg,hgs⟩:lo≤g∧g<wr.heap.size);have HTK:Hid ((ring.take (k+1)).reverse++D=f::((ring.take k).reverse++D)):=zH (by rw[List.take_add_one,List.getElem?_eq_getElem hkr,hf];simp);have p0:=(World.cell?_of_block (w:=w1) (HK.out.2 _ (by rw[zt];exact Nat.lt_trans habR HZW.out) (by rw[zt];exact HAR.out adR rfl))).trans hcR;have HKS:Hid (∀W,Below wr.heap.size wr W→(fun w'=>(w'.cell? ⟨w.heap.size,0,none⟩=some (.slice A0 m.classes.length k0)∧w'.cell? ⟨w.heap.size,1,none⟩=some (.slice A1 m.statics.length k1)∧w'.cell? ⟨w.heap.size,2,none⟩=some (.slice A2 m.ints.length k2)∧w'.cell? ⟨w.heap.size,3,none⟩=some (.slice (some ⟨g,0,none⟩) m.methods.length k3)∧w'.cell? ⟨w.heap.size,4,none⟩=some (.slice A4 m.entries.length k4)∧w'.cell? ⟨w.heap.size,5,none⟩=some (.int .i64 m.stack)∧w'.cell? ⟨w.heap.size,6,none⟩=some (.int .i64 m.heap))∧w'.cell? ⟨g,f*8+4,none⟩=some (.slice z.2.A4 n z.2.k4)) W):=zH (fun W hW=>by
   have hbW:=hb.keep hW (zf.lt hb);exact⟨⟨hbW.cells 0 _ rfl,hbW.cells 1 _ rfl,hbW.cells 2 _ rfl,hbW.cells 3 _ rfl,hbW.cells 4 _ rfl,hbW.cells 5 _ rfl,hbW.cells 6 _ rfl⟩,(hW.cell (p:=⟨g,f*8+4,none⟩) hgs).trans hcode⟩)
  have HKT:Hid (∀W v,Below wr.heap.size wr W→(fun w'=>(w'.cell? ⟨w.heap.size,0,none⟩=some (.slice A0 m.classes.length k0)∧w'.cell? ⟨w.heap.size,1,none⟩=some (.slice A1 m.statics.length k1)∧w'.cell? ⟨w.heap.size,2,none⟩=some (.slice A2 m.ints.length k2)∧w'.cell? ⟨w.heap.size,3,none⟩=some (.slice (some ⟨g,0,none⟩) m.methods.length k3)∧w'.cell? ⟨w.heap.size,4,none⟩=some (.slice A4 m.entries.length k4)∧w'.cell? ⟨w.heap.size,5,none⟩=some (.int .i64 m.stack)∧w'.cell? ⟨w.heap.size,6,none⟩=some (.int .i64 m.heap))∧w'.cell? ⟨g,f*8+4,none⟩=some (.slice z.2.A4 n z.2.k4)) (W.setCell ⟨g,f*8+7,none⟩ v)):=zH (fun W v hW=>by
   obtain⟨⟨s0,s1,s2,s3,s4,s5,s6⟩,s7⟩:=HKS.out W hW;exact⟨⟨(World.cell?_setCell_far _ _ _ _ hne).trans s0,(World.cell?_setCell_far _ _ _ _ hne).trans s1,(World.cell?_setCell_far _ _ _ _ hne).trans s2,(World.cell?_setCell_far _ _ _ _ hne).trans s3,(World.cell?_setCell_far _ _ _ _ hne).trans s4,(World.cell?_setCell_far _ _ _ _ hne).trans s5,(World.cell?_setCell_far _ _ _ _ hne).trans s6⟩,(qpg (by omega) v).trans s7⟩)
  clear hcR hf hfm hfD hfx hzN hz8 hxm hsx hlL hlf hwo hwl hWL hO hOB hOl hcz hxz hz hb hfz hn hcode habR hcy;go_upto_region 5 with fail
  clear q0 q1 q2 q3 q4 q5 q6 p0;have HBd:Hid (Below wr.heap.size wr wr.drew):=zH (zb _ _).drew;have HRd:=zH (HR.out.keep HBd.out);have HIMd:=zH (HIM.out.now HBd.out);have HXd:=zH (HX.out.drew);have HTd:=zH (kx HTY.out HXd.out);have HKd:=zH (HK.out.below HBd.out);refine wp_region_noPanic ?_;refine wp_region_held_drew (S:=(fun w'=>(w'.cell? ⟨w.heap.size,0,none⟩=some (.slice A0 m.classes.length k0)∧w'.cell? ⟨w.heap.size,1,none⟩=some (.slice A1 m.statics.length k1)∧w'.cell? ⟨w.heap.size,2,none⟩=some (.slice A2 m.ints.length k2)∧w'.cell? ⟨w.heap.size,3,none⟩=some (.slice (some ⟨g,0,none⟩) m.methods.length k3)∧w'.cell? ⟨w.heap.size,4,none⟩=some (.slice A4 m.entries.length k4)∧w'.cell? ⟨w.heap.size,5,none⟩=some (.int .i64 m.stack)∧w'.cell? ⟨w.heap.size,6,none⟩=some (.int .i64 m.heap))∧w'.cell? ⟨g,f*8+4,none⟩=some (.slice z.2.A4 n z.2.k4))) (by kernel_rfl) (HKS.out _ HBd.out) (fun hHeld=> ?_);generalize wr.drew=wd at HBd HRd HIMd HXd HTd HKd hHeld⊢
  refine mT 0 (h:=mT 1 (h:=mT 2 (h:=mT 3 (h:=mT 5 (h:=mT 6 (h:=mT 7 (h:=mT 8 (h:=mT 9 (h:= ?_)))))))));refine wpAnyH_ready (rs:=[4]) (by kernel_rfl) (by simp) ?_;refine AllReadyH.cons (o:=_) rfl (fun K hK=> ?_) AllReadyH.nil;go_simp;(go_at_call 31;(with_reducible refine(qpu (h:=⟨A0,A1,A2,some ⟨g,0,none⟩,A4,k0,k1,k2,k3,k4⟩) HAL HIMd HSX HTd HGX HWL).mono ?_);rintro e w6 ⟨A6,c6,rfl,hs,hb⟩;have HS6:=zH hs;have HB6:=zj HBd hb;have HR6:=zH (HRd.out.keep hb);have HX6:=zj HXd hb;have HK6:=zH (HKd.out.below hb);clear hs hb)
  refine hK.out _ _ (HKS.out _ HB6.out) (fun hHeld=> ?_);clear hK K;try simp only[sA,sB,sC,Act.put,sD,sE,sF]
  refine wpAnyH_ready (rs:=[10]) (by kernel_rfl) (by simp) ?_;refine AllReadyH.cons (o:=_) rfl (fun K hK=> ?_) AllReadyH.nil;go_simp;(go_at_call 70;(with_reducible refine(qoo HS6 HWO HOO).mono ?_);rintro e w7 ⟨gp,rfl,hgp,hN,hb⟩;have HGP:=zH hgp;have HN7:=zH hN;have HB7:=zj HB6 hb;have HR7:=zH (HR6.out.keep hb);have HX7:=zj HX6 hb;have HK7:=zH (HK6.out.below hb);clear hgp hN hb)
  refine hK.out _ _ (HKS.out _ HB7.out) (fun hHeld=> ?_);clear hK K;try simp only[sA,sB,sC,Act.put,sD,sE,sF]
  refine mT 11 (h:=mT 12 (h:= ?_));refine wpAnyH_ready (rs:=[13]) (by kernel_rfl) (by simp) ?_;refine AllReadyH.cons (o:=_) rfl (fun K hK=> ?_) AllReadyH.nil;obtain⟨y7,f7⟩:=HR7.out.cell rfl HZK.out (show 7<8 by decide) rfl;go_simp;refine hK.out _ _ (HKT.out _ _ HB7.out) (fun hHeld=> ?_);clear hK K;try simp only[sA,sB,sC,Act.put,sD,sE,sF]
  refine wpAnyH_done (by kernel_rfl) ?_ _;refine NoPanic.normal ?_;have hgpg:gp≠g:=by have h1:=HGP.out;have h2:=HB6.out.size;have h3:=HGL.out.2;omega
  have hgpb:bs≤gp:=by have h1:=HGP.out;have h2:=HB6.out.size;have h3:=HGL.out;have h4:=HR7.out.base;omega
  have hOl:=HOL.out;have hn1000:n≤1000:=by have:=HWO.out.1;omega
  have hMI:qy (zW (vC bs (some ⟨g,0,none⟩)) w7) w7.heap.size ({z.2 with A7:=some ⟨gp,0,none⟩,k7:=n}:zS) ({z.1 with phi:=O}:ze):=by
   have h0:=HR7.out.mth z (List.mem_of_getElem? HZK.out);exact⟨h0.args,h0.locals,h0.code,qls (n:=n) HN7.out hOl hn1000 (Vp.mpr ⟨hgpb,Qi.mpr fun ad e=>by cases e;exact fun e=>hgpg e.symm⟩)⟩
  have hR8:=HR7.out.turn (f:=f) (r:=7) (y:=(({z.1 with phi:=O}:ze),({z.2 with A7:=some ⟨gp,0,none⟩,k7:=n}:zS))) (v:= .slice (some ⟨gp,0,none⟩) n n) rfl HZK.out (by decide) (by show _=List.set _ 7 _;simp[jz,qe,hOl]) hMI;dsimp only at hR8;rw[qqz HPM.out]at hR8;have hN8:zZ (w7.setCell ⟨g,f*8+7,none⟩ (.slice (some ⟨gp,0,none⟩) n n)) gp O:=(Below.heap_setCell _ _ _ gp hgpg).trans HN7.out;have hX8:Below w0.heap.size w0 (w7.setCell ⟨g,f*8+7,none⟩ (.slice (some ⟨gp,0,none⟩) n n)):=HX7.out.setCell (p:=⟨g,f*8+7,none⟩) (by have h1:=HGL.out.1;have h2:=HLO.out;show w0.heap.size≤g;omega) _;have hK8:jv (some ⟨g,0,none⟩) w1 (w7.setCell ⟨g,f*8+7,none⟩ (.slice (some ⟨gp,0,none⟩) n n)):=HK7.out.set rfl;have hzl:f<zk.length:=(List.getElem?_eq_some_iff.mp HZK.out).1;have HZ8:Hid ((zk.set f (({z.1 with phi:=O}:ze),({z.2 with A7:=some ⟨gp,0,none⟩,k7:=n}:zS)))[f]? =some (({z.1 with phi:=O}:ze),({z.2 with A7:=some ⟨gp,0,none⟩,k7:=n}:zS))):=zH (by rw[List.getElem?_set,if_pos rfl,if_pos hzl]);clear y7 f7 hMI;generalize w7.setCell ⟨g,f*8+7,none⟩ (.slice (some ⟨gp,0,none⟩) n n)=w8 at hR8 hN8 hX8 hK8⊢
  generalize zk.set f (({z.1 with phi:=O}:ze),({z.2 with A7:=some ⟨gp,0,none⟩,k7:=n}:zS))=z8 at hR8 HZ8;have HR8:=zH hR8;have HX8:=zH hX8;have HK8:=zH hK8;have HSO:Hid (zd zo 1 w8 w8.heap.size (some ⟨gp,0,none⟩) n O):=zH (hN8.slc hOl (by have:=HWO.out.1;omega));have c7:=(hR8.cell rfl HZ8.out (show 7<8 by decide) rfl).1;rw[show({z.1 with phi:=O}:ze).phi.length=n from hOl]at c7;obtain⟨r,hr⟩:∃r,ZF O=r:=⟨_,rfl⟩
  have HRO:=zH hr;clear hR8 hN8 hX8 hK8 hr hOl;cases r;rotate_left
  ·go_wp2_with(go_at_call 71;(with_reducible refine(q5o HOL HSO HRO).mono ?_);rintro e w9 ⟨rfl,rfl⟩)
   go_ret;exact⟨false,_,_,rfl,HR8.out,⟨Nat.le_trans HKA.out.1 HK8.out.1,fun b h1 h2=>(HK8.out.2 b (Nat.lt_of_lt_of_le h1 HKA.out.1) h2).trans (HKA.out.2 b h1 h2)⟩,HX8.out,(fun e=>nomatch e),fun _=>⟨xk,_,HS.out,f,HFN.out,by rw[HOV.out,HRO.out]⟩⟩
  have HOVF:Hid (QJ l xk f=false):=zH (by rw[HOV.out,HRO.out]);cases cyc;rotate_left
  ·have HSN:Hid (jU m l ((ring.take (k+1)).reverse++D) (va l xk f)):=zH (by rw[HTK.out];exact HS.out.phi HFN.out HFD.out HWX.out HOVF.out HCY.out);go_wp2_with(go_at_call 71;(with_reducible refine(q5o HOL HSO HRO).mono ?_);rintro e w9 ⟨rfl,rfl⟩)
   go_roundw;case rel=>exact⟨k+1,_,_,by omega,by go_num,HR8,HSN,HK8,HX8⟩
   case measure=>simp[intOf];omega
  have HSN:Hid (jU m l ((ring.take (k+1)).reverse++D) (JJ (va l xk f) f)):=zH (by rw[HTK.out];exact HS.out.both HFN.out HFD.out HWX.out HOVF.out HCY.out);go_upto_region 9 with(go_at_call 71;(with_reducible refine(q5o HOL HSO HRO).mono ?_);rintro e w9 ⟨rfl,rfl⟩)
  obtain⟨V,hV⟩:∃V,atI O 0=V:=⟨_,rfl⟩
  have HV:=zH hV;have hPV:zM ({z.1 with phi:=O}:ze) 0=V:=by rw[←hV];unfold zM atI;rw[if_neg (by omega)]
  have HPV:=zH hPV;clear hV hPV c7;have c7:=(HR8.out.cell rfl HZ8.out (show 7<8 by decide) rfl).1;rw[show({z.1 with phi:=O}:ze).phi.length=n from HOL.out]at c7;obtain⟨y6,f6⟩:=HR8.out.cell rfl HZ8.out (show 6<8 by decide) rfl;go_wp2_with(go_at_call 73;(with_reducible refine(q6l HOL HSO HV).mono ?_);rintro e w10 ⟨rfl,rfl⟩)
  have hM8:=HR8.out.mth _ (List.mem_of_getElem? HZ8.out);have hR9:=HR8.out.turn (f:=f) (r:=6) (y:=(({z.1 with phi:=O,pot:=V}:ze),({z.2 with A7:=some ⟨gp,0,none⟩,k7:=n}:zS))) (v:= .int .i64 V) rfl HZ8.out (by decide) rfl ⟨hM8.args,hM8.locals,hM8.code,hM8.phi⟩;dsimp only at hR9;have hpr:=qqw (l:=l) (y:=({z.1 with phi:=O}:ze)) HPM.out (by rw[HS.out.len];exact HFN.out);rw[HPV.out]at hpr;have HR9:Hid (jD (w9.setCell ⟨g,f*8+6,none⟩ (.int .i64 V)) lo bs ⟨A0,A1,A2,some ⟨g,0,none⟩,A4,k0,k1,k2,k3,k4⟩ (JJ (va l xk f) f) (z8.set f (({z.1 with phi:=O,pot:=V}:ze),({z.2 with A7:=some ⟨gp,0,none⟩,k7:=n}:zS)))):=zH (by rw[←hpr];exact hR9);have HX9:Hid (Below w0.heap.size w0 (w9.setCell ⟨g,f*8+6,none⟩ (.int .i64 V))):=zH (HX8.out.setCell (p:=⟨g,f*8+6,none⟩) (by have h1:=HGL.out.1;have h2:=HLO.out;show w0.heap.size≤g;omega) _);have HK9:Hid (jv (some ⟨g,0,none⟩) w1 (w9.setCell ⟨g,f*8+6,none⟩ (.int .i64 V))):=zH (HK8.out.set rfl);clear y6 f6 hM8 hR9 hpr c7;go_roundw;case rel=>exact⟨k+1,_,_,by omega,by go_num,HR9,HSN,HK9,HX9⟩
  case measure=>simp[intOf];omega
theorem qns{m:za}(hm:zP m):qcm m:=by
 have hf:=hm.fits;exact⟨by have:=hf.cl;omega,by have:=hf.sl;omega,by have:=hf.il;omega,by have:=hf.ml;omega,by have:=hf.el;omega,fun c hc=>by have:=hf.ct c hc;exact⟨by have:=this.fl;omega,by have:=this.sl;omega⟩,fun x hx=>by have:=hf.mt x hx;exact⟨by have:=this.al;omega,by have:=this.ll;omega,by have:=this.cl;omega,by have:=this.pl;omega⟩⟩
def nilM(g:ze):ze:={g with pot:=0}
def kv(m:za)(k:Nat):za:={m with methods:=(m.methods.take k).map nilM++m.methods.drop k}
theorem qlt(m:za):kv m 0=m:=by unfold kv;simp
theorem qoi{m:za}{k:Nat}(hk:m.methods.length≤k):kv m k=Yz m:=by
 unfold kv Yz;rw[List.take_of_length_le hk,List.drop_eq_nil_of_le hk,List.append_nil];rfl
theorem qbw(m:za)(k:Nat):(kv m k).methods.length=m.methods.length:=by
 unfold kv;simp;omega
theorem qr8{m:za}{k:Nat}(hk:k<m.methods.length):(kv m k).methods[k]? =m.methods[k]? :=by
 unfold kv;dsimp only;rw[List.getElem?_append_right (by simp;omega),List.getElem?_drop];congr 1;simp;omega
theorem qlu{m:za}{k:Nat}{x:ze}(hx:m.methods[k]? =some x):{kv m k with methods:=(kv m k).methods.set k (nilM x)}=kv m (k+1):=by
 have hk:=(List.getElem?_eq_some_iff.mp hx).1;have:(kv m k).methods.set k (nilM x)=(kv m (k+1)).methods:=by
  refine List.ext_getElem? fun i=> ?_;rw[List.getElem?_set,qbw];unfold kv;dsimp only;by_cases e:k=i
  ·subst e;rw[if_pos rfl,if_pos hk,List.getElem?_append_left (by simp;omega),List.getElem?_map,List.getElem?_take,if_pos (by omega),hx];rfl
  ·rw[if_neg e];rcases Nat.lt_or_ge i k with q|q
   ·rw[List.getElem?_append_left (by simp;omega),List.getElem?_append_left (by simp;omega),List.getElem?_map,List.getElem?_map,List.getElem?_take,List.getElem?_take,if_pos q,if_pos (by omega)]
   ·rw[List.getElem?_append_right (by simp;omega),List.getElem?_append_right (by simp;omega),List.getElem?_drop,List.getElem?_drop];congr 1;simp;omega
 unfold kv at this⊢
 dsimp only at this⊢
 rw[this]
def q5e(m:za)(l:List (List zu)):Prop:=∃x D,jU m l D x∧((∃f,f<m.methods.length∧QJ l x f=true)∨((∀f,f<m.methods.length→f ∈D)∧0≤qZ x l))
def qrs(m:za)(l:List (List zu))(w:World)(e:Ending)(w':World):Prop:=∃(hx:zl) (x:za) (ok:Bool),e= .returned (.tuple #[zr hx x,.bool ok])∧Below w.heap.size w w'∧zp w' w'.heap.size hx x∧(ok=false→x.methods=[]∧q5e m l)∧(ok=true→ZV m l x)
theorem qo2{m x0:za}{l:List (List zu)}{D ring:List Nat}{cyc:Bool}{h:zl}{zs:List (ze×zS)}{lo bs nr:Nat}{AM AR:Option Addr}{cM cR:Nat}{w0 w:World}(hm:Hid (zP m))(HR:Hid (jD w lo bs h x0 zs))(hS:Hid (jU m l D x0))(hTY:Hid (qM m w0 AM cM l))(hX:Hid (Below w0.heap.size w0 w))(hlo:Hid (w0.heap.size≤lo))
  (hring:Hid (zz w w.heap.size AR (qg ring))) (hrc:Hid (ring.length≤cR∧cR≤9223372036854775807)) (hin:Hid ((∀f ∈ring,f<m.methods.length∧jX (jm m) m.methods.length f f=cyc)∧ring.Nodup∧∀f ∈ring,f ∉D)) (hAR:Hid (∀ad,AR=some ad→kR h.A3 ad.block=false)) (hn:Hid (ring.length=nr)):
  Calls Tryz.prog 39 #[zr h m,.slice AM l.length cM,.slice AR nr cR,.bool cyc] w (qd5 m l D ring lo bs h w0 w):=by
 obtain rfl:=hn.out;exact ql3 m x0 l D ring cyc h zs lo bs AM AR cM cR w0 w hm.out HR.out hS.out hTY.out hX.out hlo.out hring.out hrc.out hin.out.1 hin.out.2.1 hin.out.2.2 hAR.out
theorem jv.trans{A:Option Addr}{w w1 w2:World}(h:jv A w w1)(k:jv A w1 w2):jv A w w2:=⟨Nat.le_trans h.1 k.1,fun b h1 h2=>(k.2 b (Nat.lt_of_lt_of_le h1 h.1) h2).trans (h.2 b h1 h2)⟩
theorem qae{m x:za}{l:List (List zu)}{A:Option Addr}{c:Nat}{h:zl}{w:World}{P:Int}(e:Hid (zC x=zC m))(HI:Hid (zp w w.heap.size h x))(HM:Hid (zP x))(HT:Hid (qM m w A c l))(HP:Hid (qZ x l=P)):
  Calls Tryz.prog 10 #[zr h m,.slice A l.length c] w fun e w'=>e= .returned (.tuple #[.int .i64 (if 0≤P then P else 0),.int .i64 (if 0≤P then 6 else 0)])∧Below w.heap.size w w':=by
 have H:=q3z x l A c h w HI.out HM.out (q3t HT.out e.out);rw[HP.out,q45 e.out]at H;exact H
theorem q90{m x:za}{l:List (List zu)}{A:Option Addr}{c:Nat}{h:zl}{w:World}{P:Int}(e:Hid (zC x=zC m))(HI:Hid (zp w w.heap.size h x))(HM:Hid (zP x))(HT:Hid (qM m w A c l))(HP:Hid (qZ x l=P))(h0:Hid (0≤P)):
  Calls Tryz.prog 10 #[zr h m,.slice A l.length c] w fun e w'=>e= .returned (.tuple #[.int .i64 P,.int .i64 6])∧Below w.heap.size w w':=by
 have H:=qae (A:=A) (c:=c) e HI HM HT HP;rw[if_pos h0.out,if_pos h0.out]at H;exact H
theorem qle{m x:za}{l:List (List zu)}{A:Option Addr}{c:Nat}{h:zl}{w:World}(e:Hid (zC x=zC m))(HI:Hid (zp w w.heap.size h x))(HM:Hid (zP x))(HT:Hid (qM m w A c l))(HP:Hid (qZ x l= -1)):
  Calls Tryz.prog 10 #[zr h m,.slice A l.length c] w fun e w'=>e= .returned (.tuple #[.int .i64 0,.int .i64 0])∧Below w.heap.size w w':=by
 have H:=qae (A:=A) (c:=c) e HI HM HT HP;exact H
theorem q3r{w:World}{N:Nat}{T:TypeId}{x0 x1 x2 x3 x4 x5 x6:Value}(h:zf w N [x0,x1,x2,x3,x4,x5,x6] T)(a b c d e f g:Value):zf (set7 w N a b c d e f g) N [a,b,c,d,e,f,g] T:=((((((h.set 0 a).set 1 b).set 2 c).set 3 d).set 4 e).set 5 f).set 6 g
theorem q4d{w w9:World}{a b c d e f g:Value}(h:Below w.heap.size w w9):Below w.heap.size w (set7 w9 (w.heap.size+1) a b c d e f g):=q9q h
theorem jD.set7{w:World}{lo bs N:Nat}{h:zl}{m:za}{zs:List (ze×zS)}{a b c d e f g:Value}(H:jD w lo bs h m zs)(hN:N<bs):jD (Go.Proofs.YtdbfllajopcccaaGreat.set7 w N a b c d e f g) lo bs h m zs:=
 ((((((H.far (a:=⟨N,0,none⟩) hN a).far (a:=⟨N,1,none⟩) hN b).far (a:=⟨N,2,none⟩) hN c).far (a:=⟨N,3,none⟩) hN d).far (a:=⟨N,4,none⟩) hN e).far (a:=⟨N,5,none⟩) hN f).far (a:=⟨N,6,none⟩) hN g
theorem qcn(w:World)(B:Nat):zp w B hnd0 ⟨[],[],[],[],[],0,0⟩:=⟨⟨zn _,by decide,qt.nil⟩,⟨zn _,by decide,qt.nil⟩,⟨zn _,by decide,qt.nil⟩,⟨zn _,by decide,qt.nil⟩,⟨zn _,by decide,qt.nil⟩⟩
theorem qqv{P:List (List Nat)}{i:Nat}(hnod:P.flatten.Nodup)(hi:i<P.length):P[i].Nodup∧∀f ∈P[i],f ∉(P.take i).flatten:=by
 have e:P=P.take i++P[i]::P.drop (i+1):=by
  rw[←List.drop_eq_getElem_cons hi,List.take_append_drop]
 have h1:((P.take i).flatten++(P[i]++(P.drop (i+1)).flatten)).Nodup:=by
  rw[←List.flatten_cons,←List.flatten_append,←e];exact hnod
 rw[List.nodup_append]at h1;obtain⟨_,h2,h3⟩:=h1;rw[List.nodup_append]at h2;exact⟨h2.1,fun f hf hq=>h3 f hq f (List.mem_append_left _ hf) rfl⟩
abbrev zeroL:List Value:=[.slice none 0 0,.slice none 0 0,.slice none 0 0,.slice none 0 0,.slice none 0 0,.int .i64 0,.int .i64 0]
abbrev q36(h:zl)(m:za):List Value:=[.slice h.A0 m.classes.length h.c0,.slice h.A1 m.statics.length h.c1,.slice h.A2 m.ints.length h.c2,.slice h.A3 m.methods.length h.c3,.slice h.A4 m.entries.length h.c4,.int .i64 m.stack,.int .i64 m.heap]
set_option maxHeartbeats 12800000 in
theorem qad(m:za)(l:List (List zu))(A:Option Addr)(c:Nat)(h:zl)(w:World)(H:zp w w.heap.size h m)(hs:vc m=true)(hT:qM m w A c l):
  Calls Tryz.prog 18 #[zr h m,.slice A l.length c] w (qrs m l w):=by
 have hm:=Qh hs;have hn12:m.methods.length≤12:=(q75 hs).1;have hW1:Below w.heap.size w ((w.alloc (zq h m)).alloc (.cells #[.slice none 0 0,.slice none 0 0,.slice none 0 0,.slice none 0 0,.slice none 0 0,.int .i64 0,.int .i64 0] 28)):=((zb w.heap.size w).alloc (zn _) _).alloc (by simp) _;have hB1:zf ((w.alloc (zq h m)).alloc (.cells #[.slice none 0 0,.slice none 0 0,.slice none 0 0,.slice none 0 0,.slice none 0 0,.int .i64 0,.int .i64 0] 28)) w.heap.size (q36 h m) 28:=zf.keep (zf.new w (q36 h m) 28) ((zb _ _).alloc (zn _) _) (by simp);have hB2:zf ((w.alloc (zq h m)).alloc (.cells #[.slice none 0 0,.slice none 0 0,.slice none 0 0,.slice none 0 0,.slice none 0 0,.int .i64 0,.int .i64 0] 28)) (w.heap.size+1) zeroL 28:=zf.at_ (by simp) zeroL _;have HI:=zH H;have HM:=zH hm;have HTY:=zH hT;have HSZ:=zH (qns hm);have hcap:=H.methods.cap;have hle:=H.methods.le;clear H hT hs;go_enter Tryz.func18,Tryz.ntmps18;go_upto_region 1 with fail
 generalize(w.alloc (zq h m)).alloc (.cells #[.slice none 0 0,.slice none 0 0,.slice none 0 0,.slice none 0 0,.slice none 0 0,.int .i64 0,.int .i64 0] 28)=w1 at*
 have HX1:=zH hW1;have HB1:=zH hB1;have HB2:=zH hB2;have HIM1:=zH (HI.out.now hW1);have HNW:Hid (w.heap.size+1<w1.heap.size):=zH (zf.lt hB2);clear hW1 hB1 hB2;obtain⟨q0,q1,q2,q3,q4,q5,q6⟩:=qm HB1.out.cells;go_upto_region 2 with(go_at_call 36;(refine(qme m h _ _ (zn _) HIM1.out HSZ.out).mono ?_);rintro e w2 ⟨h2,zs,lo,rfl,_,hb,_,hlo,hR⟩;have HR2:=zH hR;have HLO:=zH hlo;have HC2:=zH hb;clear hb hlo hR)
 clear q0 q1 q2 q3 q4 q5 q6;have hA3:Below w2.heap.size w2 (w2.alloc (zq h2 m)):=(zb _ _).alloc (zn _) _;have HB3:Hid (zf (w2.alloc (zq h2 m)) w2.heap.size (q36 h2 m) 28):=zH (zf.new w2 (q36 h2 m) 28);have HR3:=zH (HR2.out.keep hA3);have HX3:=zj HC2 hA3;have HNF:Hid (kR h2.A3 w2.heap.size=false):=zH (Qi.mpr fun ad e=>by have:=(HR2.out.row.lt ad.block (by rw[e];rfl)).2;omega);have HLW:Hid (∀b,b<w1.heap.size→kR h2.A3 b=false):=zH (fun b hb=>Qi.mpr fun ad e=>by have:=(HR2.out.row.lt ad.block (by rw[e];rfl)).1;have:=HLO.out;omega);have HA3L:Hid (∀ad,h2.A3=some ad→ad.block<w2.heap.size):=zH (fun ad e=>(HR2.out.row.lt ad.block (by rw[e];rfl)).2);have hc2:m.methods.length≤h2.c3:=HR2.out.image.methods.le;have hc2':h2.c3≤9223372036854775807:=HR2.out.image.methods.cap;clear hA3;obtain⟨B0,B1,B2,B3,B4,j0,j1,j2,j3,j4⟩:=h2;dsimp only at hc2 hc2' HNF HLW HA3L HB3;obtain⟨Nf,hNf⟩:∃z,w2.heap.size=z:=⟨_,rfl⟩
 simp only[hNf]at HB3 HNF HA3L⊢
 generalize w2.alloc (zq ⟨B0,B1,B2,B3,B4,j0,j1,j2,j3,j4⟩ m)=w3 at*
 have q3:=HB3.out.cells 3 _ rfl;go_wp2_with fail
 clear q3;go_loopw [18] (fun i wr=>∃(k:Nat) (zk:List (ze×zS)),k≤m.methods.length∧i= .int .i64 k∧Hid (jD wr lo w1.heap.size ⟨B0,B1,B2,B3,B4,j0,j1,j2,j3,j4⟩ (kv m k) zk)∧Hid (jv B3 w3 wr)∧Hid (Below w1.heap.size w1 wr)) (fun i _=>m.methods.length - (intOf i).toNat)
 case atStart=>exact⟨0,zs,Nat.zero_le _,rfl,by rw[qlt];exact HR3,zH (jv.refl _ _),HX3⟩
 case round=>
  clear HX3 HR3;obtain⟨k,zk,hk,rfl,HR,HK,HX⟩:=hrel
  rename World=>wk
  have HBF:=zH (HK.out.whole HB3.out HNF.out);have q3:=HBF.out.cells 3 _ rfl;by_cases hkn:k<m.methods.length
  ·have hki:(k:Int)<(m.methods.length:Int):=by omega
   obtain⟨g,z,hA,hlg,hgs,_,hz,hxz,_⟩:=HR.out.at_ (show k<(kv m k).methods.length by rw[qbw];exact hkn);dsimp only at hA;subst hA;rw[qr8 hkn]at hxz;obtain⟨y6,f6⟩:=HR.out.cell rfl hz (show 6<8 by decide) rfl;have hM:=HR.out.mth z (List.mem_of_getElem? hz);have hR9:=HR.out.turn (f:=k) (r:=6) (y:=(nilM z.1,z.2)) (v:= .int .i64 0) rfl hz (by decide) rfl ⟨hM.args,hM.locals,hM.code,hM.phi⟩;dsimp only at hR9;rw[qlu hxz]at hR9;have HR9:=zH hR9;have HK9:Hid (jv (some ⟨g,0,none⟩) w3 (wk.setCell ⟨g,k*8+6,none⟩ (.int .i64 0))):=zH (HK.out.set rfl);have HX9:Hid (Below w1.heap.size w1 (wk.setCell ⟨g,k*8+6,none⟩ (.int .i64 0))):=zH (HX.out.setCell (p:=⟨g,k*8+6,none⟩) (by have:=HLO.out;show w1.heap.size≤g;omega) _);clear hM hR9 hz hxz;go_wp2_with fail
   go_roundw;case rel=>exact⟨k+1,_,by omega,by go_num,HR9,HK9,HX9⟩
   case measure=>simp[intOf];omega
  ·obtain rfl:k=m.methods.length:=by omega
   have HRN:=zH HR.out;rw[qoi (zn _)]at HRN;have HSN:Hid (jU m l [] (Yz m)):=zH (jU.start HM.out);have HXW:=zH (HX1.out.trans (HX.out.mono HX1.out.size));have hBW:=(HB1.out.keep HX.out (zf.lt HB1.out))
   clear q3 HR;obtain⟨q0,q1,q2,q3,q4,q5,q6⟩:=qm hBW.cells;clear hBW;obtain⟨EL,hEL⟩:∃EL,jm m=EL:=⟨_,rfl⟩
   have HEQ:=zH hEL;have HELN:Hid (EL.length=m.methods.length):=zH (by rw[←hEL,q05]);have hrow:∀g:Nat,(EL[g]?.getD []).length≤12:=fun g=>by
    rw[←hEL];rcases Nat.lt_or_ge g m.methods.length with q|q
    ·rw[qca q];have:=qb3 m (g:Int);show(vh m (g:Int)).length≤12;omega
    ·rw[List.getElem?_eq_none (by rw[q05];exact q)];exact Nat.zero_le _
   have HED:Hid (q6g EL m.methods.length∧∀g:Nat,(EL[g]?.getD []).length≤12):=zH ⟨by rw[←hEL];exact qp5 m,hrow⟩;have HRL:Hid (∀l ∈EL,l.length≤1048576):=zH (fun l hl=>by
    obtain⟨i,hi,rfl⟩:=List.mem_iff_getElem.mp hl;have:=hrow i;rw[List.getElem?_eq_getElem hi]at this;have:EL[i].length≤12:=this;omega)
   have HGC:Hid (m.classes.length≤1000∧m.methods.length≤1000∧∀x ∈m.methods,x.code.length≤1048576):=zH ⟨by have:=hm.fits.cl;omega,by omega,fun x hx=>by have:=(hm.method hx).fits.cl;omega⟩;have HA3K:Hid (∀ad,B3=some ad→ad.block<wk.heap.size):=zH (fun ad e=>(HRN.out.row.lt ad.block (by rw[e];rfl)).2);have HRB:=zH (HB2.out.keep HX.out (zf.lt HB2.out));have HNR:Hid (kR B3 (w.heap.size+1)=false):=zH (HLW.out _ (zf.lt HB2.out));have HWL:Hid (w.heap.size≤lo):=zH (Nat.le_trans HX1.out.size HLO.out);clear hEL hrow hm;go_upto_region 8 with(go_at_call 37;(with_reducible refine(qlb HI HXW HGC (zH rfl) HEQ).mono ?_);rintro e w5 ⟨gE,rfl,hg1,hg2,hs,hb⟩;have HE5:=zH (zd.of_hole (qb.mono zo.mono 1) hs);have HEH:=zH hs;have HW5:=zH hb;clear hg1 hg2 hs hb)
   clear q0 q1 q2 q3 q4 q5 q6;go_wp2_with(go_at_call 38;(with_reducible refine(qk7 HE5 HELN hn12 HRL).mono ?_);rintro e w6 ⟨Ap,cp,P,rfl,hr,hpa,hb⟩;have HRO:=zH hr;have HPA:=zH hpa;have HW6:=zH hb;clear hr hpa hb)
   have hpl1:=HPA.out.le;have hpl2:=HPA.out.cap;have hb56:=HW5.out.trans (HW6.out.mono HW5.out.size);have HK6:Hid (jv B3 wk w6):=zH ((jv.refl _ _).below hb56);have HR6:=zH (HRN.out.keep hb56);have HX6:=zj HXW hb56;have HB6:=zH (HBF.out.keep hb56 (zf.lt HBF.out));have HZ6:=zH (HRB.out.keep hb56 (zf.lt HRB.out));have HEH6:Hid (zd (qb zo 1) 1 (zW (old wk) w6) w6.heap.size (some ⟨gE,0,none⟩) m.methods.length EL):=zH (HEH.out.hole (qb.mono zo.mono 1) HW6.out.size fun b h1 h2=>⟨h2,HW6.out.block b h1⟩);have HWK5:=zH HW5.out.size;clear hb56 HRN HX HXW HBF HRB HEH HE5 HW5 HR2 HC2;go_loopw [32] (fun i wr=>∃(k:Nat) (x:za) (zx:List (ze×zS)) (D:List Nat),k≤P.length∧i= .int .i64 k∧Hid (jD wr lo w1.heap.size ⟨B0,B1,B2,B3,B4,j0,j1,j2,j3,j4⟩ x zx)∧Hid (jU m l D x)∧Hid (∀f,f ∈D↔f ∈(P.take k).flatten)∧Hid (jv B3 w6 wr)∧Hid (Below w.heap.size w wr)) (fun i _=>P.length - (intOf i).toNat)
   case atStart=>exact⟨0,_,_,[],Nat.zero_le _,rfl,HR6,HSN,zH (fun f=>by simp),zH (jv.refl _ _),HX6⟩
   case round=>
    clear HR6 HSN HX6;obtain⟨i,x,zx,D,hi,rfl,HR,HS,HD,HK2,HX⟩:=hrel;have HBw:=zH (HK2.out.whole HB6.out HNF.out);have HZw:=zH (HK2.out.whole HZ6.out HNR.out);by_cases hil:i<P.length;rotate_left
    ·have hii:¬(i:Int)<(P.length:Int):=by omega
     have HALL:Hid (∀f:Nat,f<m.methods.length→f ∈D):=zH (fun f hf=>(HD.out f).mpr (by rw[List.take_of_length_le (by omega)];exact HRO.out.all f hf));have HAL:=zH HS.out.alike;have HIMx:=zH HR.out.image;have HSX:=zH (HS.out.sane HM.out);have HTX:=zH (kx HTY.out HX.out);obtain⟨q0,q1,q2,q3,q4,q5,q6⟩:=qm HBw.out.cells;obtain⟨P0,hP0⟩:∃P,qZ x l=P:=⟨_,rfl⟩
     have HP0:=zH hP0;have hrg:=qh2 x l;rw[hP0]at hrg;by_cases h0:0≤P0
     ·have H0:=zH h0;have z0:=HZw.out;go_upto_region 16 with(go_at_call 10;(with_reducible refine(q90 (h:=⟨B0,B1,B2,B3,B4,j0,j1,j2,j3,j4⟩) HAL HIMx HSX HTX HP0 H0).mono ?_);rintro e w9 ⟨rfl,hb⟩;have HZ9:=zH (HZw.out.keep hb (zf.lt HZw.out));have HX9:=zj HX hb;clear hb)
      obtain⟨r0,r1,r2,r3,r4,r5,r6⟩:=qm HZ9.out.cells;have f0:=HZ9.out.free 0;have f1:=HZ9.out.free 1;have f2:=HZ9.out.free 2;have f3:=HZ9.out.free 3;have f4:=HZ9.out.free 4;have f5:=HZ9.out.free 5;have f6:=HZ9.out.free 6;go_wp2_with fail
      have hW:=q3r HZ9.out (.slice none 0 0) (.slice none 0 0) (.slice none 0 0) (.slice none 0 0) (.slice none 0 0) (.int .i64 0) (.int .i64 0);obtain⟨p0,p1,p2,p3,p4,p5,p6⟩:=qm hW.cells;refine bodyPost_ret (v:= .tuple #[.agg #[.slice none 0 0,.slice none 0 0,.slice none 0 0,.slice none 0 0,.slice none 0 0,.int .i64 0,.int .i64 0],.bool false]) (by simp[results,Tryz.results18,go_sem,p0,p1,p2,p3,p4,p5,p6]) rfl ⟨hnd0,⟨[],[],[],[],[],0,0⟩,false,rfl,q4d HX9.out,qcn _ _,fun _=>⟨rfl,x,D,HS.out,.inr ⟨HALL.out,by rw[HP0.out];exact H0.out⟩⟩,fun e=>nomatch e⟩
     ·have h1:P0= -1:=by omega
      subst h1;go_upto_region 17 with(go_at_call 10;(with_reducible refine(qle (h:=⟨B0,B1,B2,B3,B4,j0,j1,j2,j3,j4⟩) HAL HIMx HSX HTX HP0).mono ?_);rintro e w9 ⟨rfl,hb⟩;have HZ9:=zH (HZw.out.keep hb (zf.lt HZw.out));have HX9:=zj HX hb;have HB9:=zH (HBw.out.keep hb (zf.lt HBw.out));have HR9:=zH (HR.out.keep hb);clear hb)
      obtain⟨r0,r1,r2,r3,r4,r5,r6⟩:=qm HZ9.out.cells;have f0:=HZ9.out.free 0;have f1:=HZ9.out.free 1;have f2:=HZ9.out.free 2;have f3:=HZ9.out.free 3;have f4:=HZ9.out.free 4;have f5:=HZ9.out.free 5;have f6:=HZ9.out.free 6;clear q0 q1 q2 q3 q4 q5 q6;obtain⟨q0,q1,q2,q3,q4,q5,q6⟩:=qm HB9.out.cells;go_wp2_with fail
      have hW:=q3r HZ9.out (.slice B0 m.classes.length j0) (.slice B1 m.statics.length j1) (.slice B2 m.ints.length j2) (.slice B3 m.methods.length j3) (.slice B4 m.entries.length j4) (.int .i64 m.stack) (.int .i64 m.heap);obtain⟨p0,p1,p2,p3,p4,p5,p6⟩:=qm hW.cells;refine bodyPost_ret (v:= .tuple #[zr ⟨B0,B1,B2,B3,B4,j0,j1,j2,j3,j4⟩ m,.bool true]) (by simp[results,Tryz.results18,go_sem,p0,p1,p2,p3,p4,p5,p6]) rfl ⟨⟨B0,B1,B2,B3,B4,j0,j1,j2,j3,j4⟩,x,true,by rw[q45 HAL.out],q4d HX9.out,(HR9.out.set7 HNW.out).image,(fun e=>nomatch e),fun _=>HS.out.filled HM.out HALL.out HTY.out.2.2.2 HTY.out.2.2.1 HP0.out⟩
    have hii:(i:Int)<(P.length:Int):=by omega
    obtain⟨p,hp⟩:∃p,P[i]=p:=⟨_,rfl⟩
    have hpi:P[i]? =some p:=by rw[List.getElem?_eq_getElem hil,hp]
    have hA3P:∀b,w5.heap.size≤b→kR B3 b=false:=fun b hb=>Qi.mpr fun ad e=>by have:=HA3K.out ad e;have:=HWK5.out;omega
    have hPA:=HPA.out.keep HK2.out.1 (fun b h1 h2=>HK2.out.2 b h2 (hA3P b h1));obtain⟨gP,gi,ci,rfl,hgP,hgP2,r0,hgi,hgi2,hci,hci2,hcells⟩:=hPA.row i p hpi;have HPL:Hid (zz wr wr.heap.size (some ⟨gi,0,none⟩) (qg p)):=zH (qlh hgi2 hcells);have HCI:Hid (p.length≤ci∧ci≤9223372036854775807):=zH ⟨hci,hci2⟩;have HAR:Hid (∀ad:Addr,(some ⟨gi,0,none⟩:Option Addr)=some ad→kR B3 ad.block=false):=zH (fun ad e=>by cases e;exact hA3P gi hgi);have hpn:∀g ∈p,g<m.methods.length:=fun g hg=>HRO.out.lt g (JG hil (by rw[hp];exact hg));have hnd:=qqv HRO.out.nod hil;rw[hp]at hnd;have hpl:p.length≤12:=by
     have:p.length≤m.methods.length:=q2m hnd.1 hpn;omega
    have HP:Hid ((∀g ∈p,g<m.methods.length)∧p.length≤12):=zH ⟨hpn,hpl⟩;obtain⟨np,hnp⟩:∃z,p.length=z:=⟨_,rfl⟩
    have HNP:=zH hnp;obtain⟨cyc,hcyc⟩:∃b,Jk EL p=b:=⟨_,rfl⟩
    have HCY:=zH hcyc;have HIN:Hid ((∀f ∈p,f<m.methods.length∧jX (jm m) m.methods.length f f=cyc)∧p.Nodup∧∀f ∈p,f ∉D):=zH ⟨fun f hf=>⟨hpn f hf,by
     rw[HEQ.out,←hcyc,←hp];exact qrg HRO.out hil (by rw[hp];exact hf)⟩,hnd.1,fun f hf hq=>hnd.2 f hf ((HD.out f).mp hq)⟩
    have HEr:Hid (zd (qb zo 1) 1 wr wr.heap.size (some ⟨gE,0,none⟩) m.methods.length EL):=zH (zd.of_hole (qb.mono zo.mono 1) (HEH6.out.hole (qb.mono zo.mono 1) HK2.out.1 fun b h1 h2=>⟨h2,HK2.out.2 b h1 (Qi.mpr fun ad e=>by have:=HA3K.out ad e;have:=kr.mp h2;omega)⟩));have HTKP:Hid (∀f,f ∈(P.take (i+1)).flatten↔f ∈p∨f ∈(P.take i).flatten):=zH (fun f=>by
     rw[List.take_add_one,hpi,List.flatten_append,List.mem_append,Or.comm];simp)
    have HKS:Hid (∀W,Below wr.heap.size wr W→(fun w'=>w'.cell? ⟨Nf,0,none⟩=some (.slice B0 m.classes.length j0)∧w'.cell? ⟨Nf,1,none⟩=some (.slice B1 m.statics.length j1)∧w'.cell? ⟨Nf,2,none⟩=some (.slice B2 m.ints.length j2)∧w'.cell? ⟨Nf,3,none⟩=some (.slice B3 m.methods.length j3)∧w'.cell? ⟨Nf,4,none⟩=some (.slice B4 m.entries.length j4)∧w'.cell? ⟨Nf,5,none⟩=some (.int .i64 m.stack)∧w'.cell? ⟨Nf,6,none⟩=some (.int .i64 m.heap)) W):=zH (fun W hW=>by
     have hb:=HBw.out.keep hW (zf.lt HBw.out);exact⟨hb.cells 0 _ rfl,hb.cells 1 _ rfl,hb.cells 2 _ rfl,hb.cells 3 _ rfl,hb.cells 4 _ rfl,hb.cells 5 _ rfl,hb.cells 6 _ rfl⟩)
    have HKT:Hid (∀W,jv B3 wr W→(fun w'=>w'.cell? ⟨Nf,0,none⟩=some (.slice B0 m.classes.length j0)∧w'.cell? ⟨Nf,1,none⟩=some (.slice B1 m.statics.length j1)∧w'.cell? ⟨Nf,2,none⟩=some (.slice B2 m.ints.length j2)∧w'.cell? ⟨Nf,3,none⟩=some (.slice B3 m.methods.length j3)∧w'.cell? ⟨Nf,4,none⟩=some (.slice B4 m.entries.length j4)∧w'.cell? ⟨Nf,5,none⟩=some (.int .i64 m.stack)∧w'.cell? ⟨Nf,6,none⟩=some (.int .i64 m.heap)) W):=zH (fun W hW=>by
     have hb:=hW.whole HBw.out HNF.out;exact⟨hb.cells 0 _ rfl,hb.cells 1 _ rfl,hb.cells 2 _ rfl,hb.cells 3 _ rfl,hb.cells 4 _ rfl,hb.cells 5 _ rfl,hb.cells 6 _ rfl⟩)
    rw[hnp]at r0;clear hp hpi hA3P hPA hgP hgP2 hgi hgi2 hci hci2 hcells hpn hnd hnp hcyc hpl;go_upto_region 11 with fail
    clear r0;have HBd:Hid (Below wr.heap.size wr wr.drew):=zH (zb _ _).drew;have HRd:=zH (HR.out.keep HBd.out);have HXd:=zH (HX.out.drew);have HEd:Hid (zd (qb zo 1) 1 wr.drew wr.drew.heap.size (some ⟨gE,0,none⟩) m.methods.length EL):=zH (js (qb.keeps zo.keeps 1) HEr.out HBd.out);have HPd:Hid (zz wr.drew wr.drew.heap.size (some ⟨gi,0,none⟩) (qg p)):=zH HPL.out;refine wp_region_noPanic ?_;refine wp_region_held_drew (S:=fun w'=>w'.cell? ⟨Nf,0,none⟩=some (.slice B0 m.classes.length j0)∧w'.cell? ⟨Nf,1,none⟩=some (.slice B1 m.statics.length j1)∧w'.cell? ⟨Nf,2,none⟩=some (.slice B2 m.ints.length j2)∧w'.cell? ⟨Nf,3,none⟩=some (.slice B3 m.methods.length j3)∧w'.cell? ⟨Nf,4,none⟩=some (.slice B4 m.entries.length j4)∧w'.cell? ⟨Nf,5,none⟩=some (.int .i64 m.stack)∧w'.cell? ⟨Nf,6,none⟩=some (.int .i64 m.heap)) (by kernel_rfl) (HKS.out _ HBd.out) (fun hHeld=> ?_);generalize wr.drew=wd at HBd HRd HXd HEd HPd hHeld⊢
    refine mT 0 (h:=mT 1 (h:=mT 2 (h:=mT 3 (h:=mT 4 (h:= ?_)))));refine wpAnyH_ready (rs:=[5]) (by kernel_rfl) (by simp) ?_;refine AllReadyH.cons (o:=_) rfl (fun K hK=> ?_) AllReadyH.nil;go_simp;(go_at_call 40;(with_reducible refine(qga HEd HELN hn12 HED HP HPd HCI HNP HCY).mono ?_);rintro e w7 ⟨rfl,hb⟩;have HB7:=zj HBd hb;have HR7:=zH (HRd.out.keep hb);have HX7:=zj HXd hb;have HP7:Hid (zz w7 w7.heap.size (some ⟨gi,0,none⟩) (qg p)):=zH ((HPd.out.below hb).more hb.size);clear hb)
    refine hK.out _ _ (HKS.out _ HB7.out) (fun hHeld=> ?_);clear hK K;try simp only[sA,sB,sC,Act.put,sD,sE,sF]
    refine wpAnyH_ready (rs:=[6]) (by kernel_rfl) (by simp) ?_;refine AllReadyH.cons (o:=_) rfl (fun K hK=> ?_) AllReadyH.nil;go_simp;(go_at_call 39;(with_reducible refine(qo2 (h:=⟨B0,B1,B2,B3,B4,j0,j1,j2,j3,j4⟩) HM HR7 HS HTY HX7 HWL HP7 HCI HIN HAR HNP).mono ?_);rintro e w8 ⟨r,x8,z8,rfl,hR8,hK8,hX8,hyes,hno⟩;have HR8:=zH hR8;have HKR:=zH (((jv.refl B3 wr).below HB7.out).trans hK8);have HX8:=zH hX8;have HYES:=zH hyes;have HNO:=zH hno;clear hR8 hK8 hX8 hyes hno)
    refine hK.out _ _ (HKT.out _ HKR.out) (fun hHeld=> ?_);clear hK K hHeld;try simp only[sA,sB,sC,Act.put,sD,sE,sF]
    have HK8:=zH (HK2.out.trans HKR.out);cases r
    ·obtain⟨y,D',hy1,f,hy2,hy3⟩:=HNO.out rfl;have HFF:Hid (q5e m l):=zH ⟨y,D',hy1,.inl ⟨f,hy2,hy3⟩⟩;have HZ9:=zH (HKR.out.whole HZw.out HNR.out);obtain⟨r0,r1,r2,r3,r4,r5,r6⟩:=qm HZ9.out.cells;have f0:=HZ9.out.free 0;have f1:=HZ9.out.free 1;have f2:=HZ9.out.free 2;have f3:=HZ9.out.free 3;have f4:=HZ9.out.free 4;have f5:=HZ9.out.free 5;have f6:=HZ9.out.free 6;clear hy1 hy2 hy3 HYES HNO;refine wpAnyH_ready (rs:=[7]) (by kernel_rfl) (by simp) ?_;refine AllReadyH.cons (o:=_) rfl (fun K hK=> ?_) AllReadyH.nil;go_simp;refine hK.out _ _ (HKT.out _ HKR.out) (fun hHeld=> ?_);clear hK K hHeld;try simp only[sA,sB,sC,Act.put,sD,sE,sF]
     refine wpAnyH_done (by kernel_rfl) ?_ _;refine NoPanic.normal ?_;go_wp2_with fail
     have hW:=q3r HZ9.out (.slice none 0 0) (.slice none 0 0) (.slice none 0 0) (.slice none 0 0) (.slice none 0 0) (.int .i64 0) (.int .i64 0);obtain⟨p0,p1,p2,p3,p4,p5,p6⟩:=qm hW.cells;refine bodyPost_ret (v:= .tuple #[.agg #[.slice none 0 0,.slice none 0 0,.slice none 0 0,.slice none 0 0,.slice none 0 0,.int .i64 0,.int .i64 0],.bool false]) (by simp[results,Tryz.results18,go_sem,p0,p1,p2,p3,p4,p5,p6]) rfl ⟨hnd0,⟨[],[],[],[],[],0,0⟩,false,rfl,q4d HX8.out,qcn _ _,fun _=>⟨rfl,HFF.out⟩,fun e=>nomatch e⟩
    ·obtain⟨D',hy1,hy2⟩:=HYES.out rfl;have HS8:=zH hy1;have HD8:Hid (∀f,f ∈D'↔f ∈(P.take (i+1)).flatten):=zH (fun f=>by rw[hy2,HTKP.out,HD.out]);clear hy1 hy2 HYES HNO;refine wpAnyH_ready (rs:=[7]) (by kernel_rfl) (by simp) ?_;refine AllReadyH.cons (o:=_) rfl (fun K hK=> ?_) AllReadyH.nil;go_simp;refine hK.out _ _ (HKT.out _ HKR.out) (fun hHeld=> ?_);clear hK K hHeld;try simp only[sA,sB,sC,Act.put,sD,sE,sF]
     refine wpAnyH_done (by kernel_rfl) ?_ _;refine NoPanic.normal ?_;go_wp2_with fail
     go_roundw;case rel=>exact⟨i+1,_,_,D',by omega,by go_num,HR8,HS8,HD8,HK8,HX8⟩
     case measure=>simp[intOf];omega
def kf:ze:=⟨[],[],(5,0),[(1,0,0),(23,9,0),(5,0,0),(33,0,0)],0,0,[0,0,0,0]⟩
def zL:za:=⟨[],[],[2],[kf],[],0,0⟩
theorem JA:QK zL=0:=qbi (by decide) (by
 simp[okB,zL,kf,Zi,ZY,qJ,Jc,zQ,retB,kP,jL])
theorem qh5:vc zL=true:=by unfold vc;rw[JA];decide
theorem qh7:JL zL [[⟨true,[]⟩,⟨true,[(1,0)]⟩,⟨true,[(2,0)]⟩,⟨true,[]⟩]]=true:=by decide
section
variable{l:List (List zu)}{S:List zu}{x:za}
theorem qbp(h:zC x=zC zL):x.methods.length=1:=Qz h
theorem Yj(h:zC x=zC zL):(zm x ((0:Nat):Int)).code=kf.code:=YY h _
theorem q1w(hF:jF zL ((0:Nat):Int) S):(∀p:Nat,p<4→(zv S (p:Int)).seen=true)∧qh zL 0 S 0=[1]∧qh zL 0 S 1=[2]∧qh zL 0 S 2=[3]∧qh zL 0 S 3=[]:=by
 have hl:S.length=4:=hF.grow.len;have hx:zL.methods[0]? =some kf:=rfl;have key:∀(p:Nat) (op a b:Int),p<4→kf.code[p]? =some (op,a,b)→(zv S (p:Int)).seen=true→qh zL 0 S p=qE (p:Int) op a:=fun p op a b hp hi hs=>
  q4y (f:=0) (pc:=p) (st:=(zv S (p:Int)).stack) hx hi (hF.done p (by omega) hs).1
 have go:∀(p:Nat) (op a b:Int),p<4→kf.code[p]? =some (op,a,b)→(zv S (p:Int)).seen=true→∀q ∈qE (p:Int) op a,(zv S q).seen=true:=fun p op a b hp hi hs q hq=>by
  rw[←key p op a b hp hi hs]at hq;exact((hF.done p (by omega) hs).2 q hq).1
 have s0:(zv S ((0:Nat):Int)).seen=true:=hF.grow.first;have n0:=key 0 1 0 0 (by decide) rfl s0;have s1:(zv S ((1:Nat):Int)).seen=true:=go 0 1 0 0 (by decide) rfl s0 1 (by decide);have n1:=key 1 23 9 0 (by decide) rfl s1;have s2:(zv S ((2:Nat):Int)).seen=true:=go 1 23 9 0 (by decide) rfl s1 2 (by decide);have n2:=key 2 5 0 0 (by decide) rfl s2;have s3:(zv S ((3:Nat):Int)).seen=true:=go 2 5 0 0 (by decide) rfl s2 3 (by decide);have n3:=key 3 33 0 0 (by decide) rfl s3;refine⟨fun p hp=> ?_,n0,n1,n2,n3⟩
 match p,hp with
 |0,_=>exact s0
 |1,_=>exact s1
 |2,_=>exact s2
 |3,_=>exact s3
theorem q4t(h:zC x=zC zL){g:ze}(hg:g.code=kf.code):qs x g 0=0∧qs x g 1=10∧qs x g 2=0∧qs x g 3=0:=by
 unfold qs;rw[hg];exact⟨rfl,rfl,rfl,rfl⟩
theorem VX(h:zC x=zC zL)(hF:jF zL ((0:Nat):Int) S):qh x 0 S 0=[1]∧qh x 0 S 1=[2]∧qh x 0 S 2=[3]∧qh x 0 S 3=[]:=by
 obtain⟨_,n0,n1,n2,n3⟩:=q1w hF;exact⟨(Jq h 0 S 0).trans n0,(Jq h 0 S 1).trans n1,(Jq h 0 S 2).trans n2,(Jq h 0 S 3).trans n3⟩
theorem q4s(h:zC x=zC zL)(hF:jF zL ((0:Nat):Int) S)(hS:l[0]? =some S):jw x l 0=[(0,1,0),(1,2,10),(2,3,0),(3,-1,0)]:=by
 obtain⟨n0,n1,n2,n3⟩:=VX h hF;obtain⟨hs,_⟩:=q1w hF;obtain⟨c0,c1,c2,c3⟩:=q4t h (Yj h);unfold jw;rw[hS,Yj h];show vV x 0 (zm x ((0:Nat):Int)) S 4=_;have p0:jN x 0 (zm x ((0:Nat):Int)) S 0=[(0,1,0)]:=by unfold jN kC;rw[if_pos (hs 0 (by decide)),n0,c0];rfl
 have p1:jN x 0 (zm x ((0:Nat):Int)) S 1=[(1,2,10)]:=by unfold jN kC;rw[if_pos (hs 1 (by decide)),n1,c1];rfl
 have p2:jN x 0 (zm x ((0:Nat):Int)) S 2=[(2,3,0)]:=by unfold jN kC;rw[if_pos (hs 2 (by decide)),n2,c2];rfl
 have p3:jN x 0 (zm x ((0:Nat):Int)) S 3=[(3,-1,0)]:=by unfold jN kC;rw[if_pos (hs 3 (by decide)),n3,c3];rfl
 show(((([]++jN _ _ _ _ 0)++jN _ _ _ _ 1)++jN _ _ _ _ 2)++jN _ _ _ _ 3)=_;rw[p0,p1,p2,p3];rfl
theorem q8y:ZS [(0,1,0),(1,2,10),(2,3,0),(3,-1,0)] 4=[10,10,0,0]:=by decide
theorem qqx(h:zC x=zC zL)(hF:jF zL ((0:Nat):Int) S)(hS:l[0]? =some S)(hp:(zm x ((0:Nat):Int)).phi=[10,10,0,0])(hq:(zm x ((0:Nat):Int)).pot=10):qZ x l= -1:=by
 obtain⟨n0,n1,n2,n3⟩:=VX h hF;obtain⟨c0,c1,c2,c3⟩:=q4t h (Yj h);refine q1v fun g hg=> ?_;rw[qbp h]at hg;obtain rfl:g=0:=by omega
 unfold vd;rw[hS];show(!vQ x 0 (zm x ((0:Nat):Int)) S)=false;rw[q5s (by rw[hq];unfold zM;rw[hp];decide) (fun pc hpc=> ?_)]
 ·rfl
 ·rw[Yj h]at hpc;have hpc:pc<4:=hpc;unfold vg
  match pc,hpc with
  |0,_=>rw[n0];unfold vG zM;rw[c0,hp];simp
  |1,_=>rw[n1];unfold vG zM;rw[c1,hp];simp
  |2,_=>rw[n2];unfold vG zM;rw[c2,hp];simp
  |3,_=>rw[n3];simp
theorem qo6(hF:jF zL ((0:Nat):Int) S)(hS:l[0]? =some S):qZ zL l=0:=by
 obtain⟨_,n1,_,_⟩:=VX (x:=zL) rfl hF;obtain⟨hs,_⟩:=q1w hF;refine q0e (f:=0) (by decide) (fun g hg=>by omega) ?_;unfold vd;rw[hS];show(!vQ zL 0 kf S)=true;rw[q64 (pc:=1) (by decide)]
 ·rfl
 ·unfold vg;rw[hs 1 (by decide),n1];rfl
theorem qh8(hF:jF zL ((0:Nat):Int) S)(hS:l[0]? =some S):¬q5e zL l:=by
 rintro⟨x,D,h,h2⟩;rcases h2 with⟨f,hf,ho⟩|⟨ha,hp⟩
 ·obtain rfl:f=0:=by have hf:f<1:=hf;omega
  unfold QJ at ho;rw[q4s h.alike hF hS,Yj h.alike]at ho;have:(ZS [(0,1,0),(1,2,10),(2,3,0),(3,-1,0)] 4).any (fun t=>decide (t>4096))=true:=ho;rw[q8y]at this;exact absurd this (by decide)
 ·obtain⟨y,y1,_,_,y4,y5⟩:=h.done 0 (by decide) (ha 0 (by decide));rw[q4s y1 hF hS,Yj h.alike]at y4;have e1:(zm x ((0:Nat):Int)).phi=[10,10,0,0]:=y4.trans q8y;have e2:(zm x ((0:Nat):Int)).pot=10:=by
   rw[y5 (by decide)];unfold zM;rw[e1];rfl
  rw[qqx h.alike hF hS e1 e2]at hp;exact absurd hp (by decide)
theorem qo5(hF:jF zL ((0:Nat):Int) S)(hS:l[0]? =some S)(h:ZV zL l x):∃g p1 p3,x.methods=[g]∧g.pot=10∧g.phi=[10,p1,0,p3]:=by
 have hl:=qbp h.alike;obtain⟨g,hg⟩:∃g,x.methods=[g]:=by
  match hx:x.methods,hl with
  | [g],_=>exact⟨g,rfl⟩
 have hgm:x.methods[0]? =some g:=by rw[hg];rfl
 have hgi:g ∈x.methods:=List.mem_of_getElem? hgm;have hN:zm x ((0:Nat):Int)=g:=by unfold zm;rw[Int.toNat_natCast,hgm];rfl
 have hcode:g.code=kf.code:=by rw[←hN];exact Yj h.alike
 obtain⟨n0,n1,n2,n3⟩:=VX h.alike hF;obtain⟨c0,c1,c2,c3⟩:=q4t h.alike hcode;obtain⟨hs,_⟩:=q1w hF;have hfit:=h.phi g hgi;have hpl:g.phi.length=4:=by rw[hfit.1,hcode];rfl
 obtain⟨a,b,c,d,hphi⟩:∃a b c d,g.phi=[a,b,c,d]:=by
  match hq:g.phi,hpl with
  | [a,b,c,d],_=>exact⟨a,b,c,d,rfl⟩
 have hlow:=hfit.2.1;rw[hphi]at hlow;have q0:zM g ((0:Nat):Int)=a:=by unfold zM;rw[hphi];rfl
 have q1:zM g ((1:Nat):Int)=b:=by unfold zM;rw[hphi];rfl
 have q2:zM g ((2:Nat):Int)=c:=by unfold zM;rw[hphi];rfl
 have q3:zM g ((3:Nat):Int)=d:=by unfold zM;rw[hphi];rfl
 have hok:=q2d h.holds 0 (by rw[hl];decide);unfold vd at hok;rw[hN,hS]at hok;have hok:vQ x 0 g S=true:=by simpa using hok
 unfold vQ at hok;rw[Bool.and_eq_true,hcode]at hok;have hup:∀(p q:Nat),p<4→qh x 0 S p=[(q:Int)]→qs x g p+zM g (q:Int)≤zM g (p:Int):=fun p q hp hn=>by
  have h1:=Jz.mp hok.2 p hp;unfold vg at h1;rw[hs p hp,hn]at h1;unfold vG at h1;simpa using h1
 have hti:∀(p q:Nat),p<4→qh x 0 S p=[(q:Int)]→zM g (p:Int)≠0→zM g (p:Int)≤qs x g p+zM g (q:Int):=fun p q hp hn hne=>by
  obtain⟨_,q',hq,_,hle⟩:=h.tight 0 g hgm p (by rw[hcode];exact hp) hne;rw[hS]at hq;have hq:(q':Int) ∈qh x 0 S p:=hq;rw[hn,List.mem_singleton]at hq;rw[hq]at hle;exact hle
 have l0:=(hlow a (by simp)).1;have l1:=(hlow b (by simp)).1;have l2:=(hlow c (by simp)).1;have hd:d=0:=by
  rcases Classical.em (d=0)with e|e
  ·exact e
  ·exfalso;obtain⟨_,q',hq,_⟩:=h.tight 0 g hgm 3 (by rw[hcode];decide) (by rw[q3];exact e);rw[hS]at hq;have hq:(q':Int) ∈qh x 0 S 3:=hq;rw[n3]at hq;cases hq
 have hc:c=0:=by
  rcases Classical.em (c=0)with e|e
  ·exact e
  ·have:=hti 2 3 (by decide) n2 (by rw[q2];exact e);rw[q2,q3,c2,hd]at this;omega
 have u1:=hup 1 2 (by decide) n1;rw[q1,q2,c1,hc]at u1;have t1:=hti 1 2 (by decide) n1 (by rw[q1];omega);rw[q1,q2,c1,hc]at t1;have u0:=hup 0 1 (by decide) n0;rw[q0,q1,c0]at u0;have t0:=hti 0 1 (by decide) n0 (by rw[q0];omega);rw[q0,q1,c0]at t0;have ha:a=10:=by omega
 refine⟨g,b,d,hg,?_,by rw[hphi,ha,hc]⟩;rw[h.pot g hgi,←ha];exact q0
theorem qh6(hF:jF zL ((0:Nat):Int) S)(hS:l[0]? =some S):(vB zL l 0).length=5:=by
 have hx:zL.methods[0]? =some kf:=rfl;have h1:vB zL l ((0:Nat):Int)=jl zL 0 kf S 4:=by rw[q8t hx,hS];rfl
 have hw:=q4s (x:=zL) rfl hF hS;unfold jw at hw;rw[hS]at hw;have hw:vV zL 0 kf S 4=[(0,1,0),(1,2,10),(2,3,0),(3,-1,0)]:=hw;obtain⟨n0,n1,n2,n3⟩:=VX (x:=zL) rfl hF;show(vB zL l ((0:Nat):Int)).length=5;rw[h1,q3w,hw]
 ·rfl
 ·intro pc hpc _ hnil
  match pc,hpc with
  |0,_=>rw[n0]at hnil;cases hnil
  |1,_=>rw[n1]at hnil;cases hnil
  |2,_=>rw[n2]at hnil;cases hnil
  |3,_=>rfl
end
end Go.Proofs.YtdbfllajopcccaaGreat
