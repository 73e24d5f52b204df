import Derived.Test.YtnfeiginmngknaaGreatFZ05
import Derived.Deep.OwnRows
namespace Go.Proofs.YtnfeiginmngknaaGreat
set_option maxRecDepth 100000
set_option linter.unusedVariables false
set_option linter.unusedSimpArgs false
open Go.ChangeShapes Go.WideShapes Go.ChangeAt Go.RowKit
theorem qd1{w:World}{B c:Nat}{A:Option Addr}{L:List Int}(h:zd zu 1 w B A c L):zw w B A (L.map (Value.int .i64)):=fun j u hj=>by
 rw[XF]at hj;cases hl:L[j]? with
 |none=>rw[hl]at hj;cases hj
 |some x=>
  rw[hl]at hj;injection hj with hj;subst hj;obtain⟨ad,e,hb,hc⟩:=h.row j x hl;rw[Xq]at hc;exact⟨ad,e,hb,hc⟩
def qkj(B g:Nat)(EL:List (List Int))(n v:Nat)(S:Wk)(w:World)(e:Ending)(w':World):Prop:=
 e= .returned (.tuple #[])/\(∃S' a' ρ',zJ w' B g EL n S' a' ρ'/\zY EL n S'/\S'.way=[]/\(∀x,0<S.place x->0<S'.place x)/\0<S'.place v)/\Below B w w'
set_option maxHeartbeats 3200000 in
theorem qbc(B g n v:Nat)(EL:List (List Int))(S:Wk)(a:fC)(ρ:Nat->Nat)(w:World)(h:zJ w B g EL n S a ρ)(hT:zY EL n S)(hw:S.way=[])(hv:v<n)(h0:S.place v=0):
  Calls Tryz.prog 114 #[.pointer (some ⟨g,0,none⟩),.int .i64 (v:Int)] w (qkj B g EL n v S w):=by
 have hn1:=h.n1;have hmt:=Td B g n v EL S a ρ w h hv (hT.met_lt hv h0) hT.lens.1 hT.lens.2.1;have G6:=zH hmt;have HT1:=zH (hT.meet hv h0 (fun p hp=>by rw[hw]at hp;cases hp));have kI:Hid (∀x,0<S.place x->0<(S.meet v).place x):=zH (fun x hx=>zY.met_all hx);have HPV:Hid (0<(S.meet v).place v):=zH (by have e:(S.meet v).place v=S.met+1:=Jn _ _ _;omega);have hge:=h.g_ge;clear h hT hw h0 hmt;go_enter Tryz.func114,Tryz.ntmps114;go_wp2_with fail
 go_step3
 go_wp2_with(go_at_call 155;go_loud (refine G6.out.mono ?_);rintro e w1 ⟨rfl,⟨a1,ρ1,h1⟩,hb⟩;have HW1:=zH h1;have X1:=zH hb;clear h1 hb)
 go_step3
 go_wp2_with fail
 have HR:Hid (∃S' a' ρ',zJ w1 B g EL n S' a' ρ'/\zY EL n S'/\(∀x,0<S.place x->0<S'.place x)/\0<S'.place v/\Vc n S'<=Vc n (S.meet v)):=zH ⟨_,_,_,HW1.out,HT1.out,kI.out,HPV.out,zn _⟩;generalize Vc n (S.meet v)=G0 at*
 clear HW1 HT1 kI HPV G6 a1 ρ1;go_loopg [4] G0 (fun gk s4 wr=>Hid (∃S' a' ρ',zJ wr B g EL n S' a' ρ'/\zY EL n S'/\(∀x,0<S.place x->0<S'.place x)/\0<S'.place v/\Vc n S'<=gk)/\Hid (Below B w wr))
 case atStart=>exact⟨HR,X1⟩
 case round=>
  clear HR X1;obtain⟨HR,HX⟩:=hrel;obtain⟨S1,a,ρ1,hW,hT,hP,hPv,hK⟩:=HR.out;clear HR;obtain⟨gp,gb,gg,E,ce,Ay,cy,Ao,co,Ap,cp,vs⟩:=a;obtain⟨hg0,hg1,hg2,hg3⟩:=hW.g_ge;have q5:=hW.blk.cells 5 _ rfl;dsimp only at q5 hg1 hg2 hg3;have HT:=zH hT;have HW:=zH hW;have HP:=zH hP;have Ox:=zH hPv;have HK:=zH hK;obtain⟨R,hR⟩:∃R,R=gk:=⟨_,rfl⟩
  subst hR;clear hT hW hP hPv hK;rcases List.eq_nil_or_concat S1.way with hw|⟨W,x,hw⟩
  ·have HN:=zH hw;rw[hw]at q5;clear hw;dsimp only[List.length_nil]at q5;go_wp2_with fail
   try rw[Exit.noGoto_ret]
   go_end0
   exact⟨rfl,⟨_,_,_,HW.out,HT.out,HN.out,HP.out,Ox.out⟩,HX.out⟩
  ·rw[List.concat_eq_append]at hw;have nS:=zH hw;have kJ:x ∈S1.way:=by rw[hw];simp
   have hx:x<n:=HT.out.olt x (HT.out.wsub x kJ);have hwl:S1.way.length=W.length+1:=by rw[hw];simp
   have hle:=HT.out.lens.1;rw[hwl]at q5 hle;obtain⟨k,hk⟩:=zj (W.length);rw[hk]at q5 hle hwl;have hrow:wr.ownsRow B 3 1 (.slice Ay S1.way.length cy) S1.way.length (qe S1.way):=HW.out.way;obtain⟨gy,rfl,hc1,hc2,_,_⟩:=pR hrow (by omega);have cw:=pU hrow (mE (l:=S1.way) (j:=k) (v:=x) (by rw[hw,<-hk];simp));have q0:=HW.out.blk.cells 0 _ rfl;have q4:=HW.out.blk.cells 4 _ rfl;obtain⟨cg,fg⟩:=HW.out.g_at hx;dsimp only at q0 q4 cg fg;obtain⟨L,hL⟩:=zj (eds EL x);have hxl:x<EL.length:=by rw[HW.out.len];exact hx
   have Ya:EL[x]? =some L:=by
    rw[Xc hxl,<-hL];unfold eds;rw[Xc hxl];rfl
   obtain⟨dI,rfl,hab,AL,cL,xw,uE⟩:=HW.out.edges.row x L Ya;rw[Xq]at xw;have Qx:L.length<=1048576:=HW.out.el L (Xr Ya);have hgl:=HT.out.gle x (HT.out.wsub x kJ);rw[hL]at hgl;have kL:=zH hL;have lu:=zH uE;have q2e:=uE.le;have qmb:=uE.cap;have q23:=HW.out.edges.le;have qmk:=HW.out.edges.cap;dsimp only at q23 qmk;have q2x:=HW.out.len;rw[q2x]at q23;obtain⟨g0,hg0'⟩:∃g0,S1.gone x=g0:=⟨_,rfl⟩
   rw[hg0']at cg hgl;have HG:=zH hg0';have HKL:=zH hk;clear hw kJ hrow hL Ya hxl uE hg0' q2x hk hwl;go_wp2_with fail
   go_region
   go_upto_region 3 with fail
   go_region
   have HLY:Hid (zw wr B (if cL=g0 then AL else Option.map (fun x=>x.add g0) AL) ((L.map (Value.int .i64)).drop g0)):=zH ((qd1 lu.out).cut (by rw[Xm];exact q2e));have hm1:L.length - g0<=cL - g0:=by omega
   have hm2:cL - g0<=9223372036854775807:=by omega
   have CS:g0+(L.length - g0)=L.length:=by omega
   have HX2:=zH (zb B wr).drew.drew;have HI:Hid (∃S2 a2 ρ2,zJ wr.drew.drew B g EL n S2 a2 ρ2/\zY EL n S2/\S2.way=S1.way/\S2.place=S1.place/\S2.gone x=g0+0):=zH ⟨_,_,_,HW.out.keep (zb _ _).drew.drew,HT.out,rfl,rfl,HG.out⟩;generalize(if cL=g0 then AL else Option.map (fun x=>x.add g0) AL)=AX at*
   generalize cL - g0=cX at*
   obtain⟨m,hm⟩:=zj (L.length - g0);rw[hm]at hm1 CS⊢
   have HM:=zH CS;clear q5 cw q0 q4 cg fg xw HW q2e qmb hm CS lu hgl hc1 hc2 hle;obtain⟨w0,hw0⟩:∃W,W=wr:=⟨_,rfl⟩
   subst hw0;generalize w0.drew.drew=w2 at*
   go_wp2_with fail
   go_loopg [44] m (fun kk i wi=>∃s:Nat,s+kk=m/\i= .int .i64 s/\Hid (∃S2 a2 ρ2,zJ wi B g EL n S2 a2 ρ2/\zY EL n S2/\S2.way=S1.way/\S2.place=S1.place/\S2.gone x=g0+s)/\Hid (Below B w0 wi))
   case atStart=>exact⟨0,by omega,rfl,HI,HX2⟩
   case round=>
    clear HI HX2;obtain⟨s,hsk,rfl,HI,HX2⟩:=hrel;obtain⟨S2,a2,ρ2,hW,hT,hwy,hpl,hgo⟩:=HI.out;clear HI;have HW:=zH hW;have HT2:=zH hT;have VQ:=zH hwy;have kI:=zH hpl;have xC:=zH hgo;clear hW hT hwy hpl hgo;by_cases hsm:s<m;rotate_left
    ·have hki:¬(s:Int)<(m:Int):=by omega
     have hse:s=m:=by omega
     have hlv:=q66 B g n x EL S2 W a2 ρ2 wr HW.out HT2.out (by rw[VQ.out,nS.out]) (by rw[xC.out,hse,HM.out,kL.out]);have HLV:=zH hlv;clear hlv;go_wp2_with(go_at_call 156;go_loud (refine HLV.out.mono ?_);rintro e w4 ⟨rfl,hl,hb⟩;have JE:=zH hl;have X4:=zH hb;clear hl hb)
     go_roundg (R - 1)
     case measure=>
      have h1:=HK.out;unfold Vc at h1;have h2:S1.way.length=W.length+1:=by rw[nS.out];simp
      omega
     case rel=>
      obtain⟨S3,a3,ρ3,h1,h2,h3,h4⟩:=JE.out;refine⟨zH ⟨S3,a3,ρ3,h1,h2,fun y hy=> ?_,?_,?_⟩,zH (HX.out.trans (HX2.out.trans X4.out))⟩
      ·rw[h4,kI.out];exact HP.out y hy
      ·rw[h4,kI.out];exact Ox.out
      ·have h5:=HK.out;unfold Vc at h5⊢
       rw[h4,kI.out,h3];have h6:S1.way.length=W.length+1:=by rw[nS.out];simp
       omega
    have hki:(s:Int)<(m:Int):=by omega
    have hgs:g0+s<L.length:=by have:=HM.out;omega
    obtain⟨t,ht⟩:=zj (L[g0+s]);obtain⟨ad,rfl,hbd,hc⟩:=HLY.out s (.int .i64 t) (by rw[List.getElem?_drop,XF,Xc hgs,ht];rfl);have c0:=(HX2.out.cell (p:=ad.add s) (by exact zZ hbd)).trans hc;obtain⟨gp2,MG,Mw,E2,ce2,Ay2,cy2,Ao2,co2,Ap2,cp2,vs2⟩:=a2;obtain⟨hgg0,qma,q26,q1e⟩:=HW.out.g_ge;dsimp only at qma q26 q1e;have q4:=HW.out.blk.cells 4 _ rfl;obtain⟨cg,fg⟩:=HW.out.g_at hx;dsimp only at q4 cg fg;obtain⟨z,hz⟩:=zj (S2.gone x);have hzl:z<=1048576:=by have h1:=xC.out;rw[hz]at h1;omega
    have q1j:z<(eds EL x).length:=by rw[kL.out,<-hz,xC.out];exact hgs
    have lF:Hid (z<(eds EL x).length/\∀h:z<(eds EL x).length,(eds EL x)[z]=t):=zH ⟨q1j,fun h=>by
     have e1:(eds EL x)[z]? =some t:=by rw[kL.out,<-hz,xC.out,Xc hgs,ht]
     exact(List.getElem_eq_iff h).mpr e1⟩
    rw[hz]at cg;have HZ:=zH hz;have HW3:Hid (zJ (wr.setCell ⟨Mw,x,none⟩ (.int .i64 ((z:Int)+1))) B g EL n (S2.go x) _ ρ2):=zH (by
     have:=HW.out.gone (v:=x) (k:=z+1) (z:=(z:Int)+1) (by omega);dsimp only at this;rw[<-hz]at this;unfold Wk.go;rw[<-hz];exact this)
    have X3:=zH (HX2.out.setCell (p:=⟨Mw,x,none⟩) q1e (.int .i64 ((z:Int)+1)));clear hz hc hbd hgs ht q1j;go_upto_region 7 with fail
    generalize wr.setCell ⟨Mw,x,none⟩ (.int .i64 ((z:Int)+1))=w3 at*
    clear c0 q4 cg fg;have q0:=HW3.out.blk.cells 0 _ rfl;dsimp only at q0;by_cases htn:0<=t/\t<n;rotate_left
    ·have jS:=zH (Ko E2 n ce2 t w3 false (by rw[X6];simpa using htn));have kA:=zH htn;clear htn;go_wp2_with(go_at_call 116;go_loud (refine jS.out.mono ?_);rintro e w4 ⟨rfl,hb⟩;have H4:=zH hb;clear hb)
     go_roundg (gk - 1)
     case measure=>omega
     case rel=>
      refine⟨s+1,by omega,by go_num,zH ⟨S2.go x,_,_,HW3.out.keep H4.out,?_,VQ.out,kI.out,?_⟩,zH (X3.out.trans (H4.out.mono HW3.out.size))⟩
      ·refine HT2.out.gone_none (by rw[VQ.out,nS.out];simp) (by rw[HZ.out];exact lF.out.1) (fun u hu e=>kA.out ?_);have e2:(eds EL x)[S2.gone x]'(by rw[HZ.out];exact lF.out.1)=t:=(List.getElem_eq_iff _).mpr (by rw[HZ.out];exact(List.getElem_eq_iff lF.out.1).mp (lF.out.2 lF.out.1));omega
      ·have e:(S2.go x).gone x=S2.gone x+1:=Jn _ _ _;rw[e,xC.out];omega
    obtain⟨t0,t1⟩:=htn;obtain⟨tn,rfl⟩:=Xj t0;have htn:tn<n:=by omega
    have jS:=zH (Ko E2 n ce2 (tn:Int) w3 true (by rw[Xi t0,Xi t1];rfl));clear t0 t1;go_upto_region 8 with(go_at_call 116;go_loud (refine jS.out.mono ?_);rintro e w4 ⟨rfl,hb⟩;have H4:=zH hb;clear hb)
    have kj:=zH (HW3.out.keep H4.out);have X4:=zH (X3.out.trans (H4.out.mono HW3.out.size));clear q0 HW3 X3 H4 jS;have q2:=kj.out.blk.cells 2 _ rfl;obtain⟨cp,_⟩:=kj.out.p_at htn;replace cp:w4.cell? ⟨gp2,tn,none⟩=some (.int .i64 (S2.place tn:Int)):=cp;dsimp only at q2;have kG:Hid (∃h:S2.gone x<(eds EL x).length,(eds EL x)[S2.gone x]=(tn:Int)):=zH ⟨by rw[HZ.out];exact lF.out.1,(List.getElem_eq_iff _).mpr (by rw[HZ.out];exact(List.getElem_eq_iff lF.out.1).mp (lF.out.2 lF.out.1))⟩;have q1b:x ∈S2.way:=by rw[VQ.out,nS.out];simp
    have HXW:=zH q1b;clear q1b;obtain⟨pt,hpt⟩:∃z,S2.place tn=z:=⟨_,rfl⟩
    rw[hpt]at cp;have ki:=zH hpt;clear hpt;by_cases h0:pt=0
    ·have hcmp:((pt:Int)==0)=true:=by simpa using h0
     have G6:=zH (Td B g n tn EL (S2.go x) _ ρ2 w4 kj.out htn (by show S2.met<n;exact HT2.out.met_lt htn (by rw[ki.out];exact h0)) (by show S2.way.length<=n;exact HT2.out.lens.1) (by show S2.opn.length<=n;exact HT2.out.lens.2.1));have NE:Hid (zY EL n ((S2.go x).meet tn)/\Vc n ((S2.go x).meet tn)<Vc n S2):=zH (by
      obtain⟨h1,h2⟩:=kG.out;exact HT2.out.gone_new (W:=W) (by rw[VQ.out,nS.out]) h1 htn (by rw[ki.out];exact h0) h2)
     have Hf:Hid (Vc n S2=Vc n S1):=zH (by unfold Vc;rw[kI.out,VQ.out]);clear h0;go_wp2_with(go_at_call 155;go_loud (refine G6.out.mono ?_);rintro e w5 ⟨rfl,FW,hb⟩;have nY:=zH FW;have X5:=zH (X4.out.trans hb);clear FW hb)
     go_roundg (R - 1)
     case measure=>have h1:=NE.out.2;have h2:=Hf.out;have h3:=HK.out;omega
     case rel=>
      obtain⟨a5,ρ5,FW⟩:=nY.out;refine⟨zH ⟨_,a5,ρ5,FW,NE.out.1,fun y hy=>zY.met_all (S:=S2.go x) (by show 0<S2.place y;rw[kI.out];exact HP.out y hy),zY.met_all (S:=S2.go x) (by show 0<S2.place v;rw[kI.out];exact Ox.out),?_⟩,zH (HX.out.trans X5.out)⟩;have h1:=NE.out.2;have h2:=Hf.out;have h3:=HK.out;omega
    ·have hcmp:((pt:Int)==0)=false:=by simpa using h0
     have HOLD:Hid (zY EL n ((S2.lower x (min (S2.back x) (S2.back tn))).go x)):=zH (by
      obtain⟨h1,h2⟩:=kG.out;exact HT2.out.gone_old (by show(n:Int)<=9223372036854775807;omega) HXW.out h1 htn (by rw[ki.out];omega) h2)
     have hp0:¬(pt:Int)=0:=by omega
     go_wp2_with fail
     have q3:=kj.out.blk.cells 3 _ rfl;obtain⟨cb,fb⟩:=kj.out.b_at hx;obtain⟨ct,_⟩:=kj.out.b_at htn;replace cb:w4.cell? ⟨MG,x,none⟩=some (.int .i64 (S2.back x)):=cb;replace ct:w4.cell? ⟨MG,tn,none⟩=some (.int .i64 (S2.back tn)):=ct;dsimp only at q3 fb;go_region
     go_wp2_with fail
     go_roundg (gk - 1)
     case measure=>omega
     case rel=>
      have qM:=(kj.out.back (v:=x) (k:=min (S2.back x) (S2.back tn))).keep (zb _ _).drew;refine⟨s+1,by omega,by go_num,zH ⟨(S2.lower x (min (S2.back x) (S2.back tn))).go x,_,_,qM,HOLD.out,VQ.out,kI.out,?_⟩,zH (X4.out.setCell (p:=⟨MG,x,none⟩) q26 _).drew⟩;have e:((S2.lower x (min (S2.back x) (S2.back tn))).go x).gone x=S2.gone x+1:=Jn _ _ _;rw[e,xC.out];omega
def qin(EL:List (List Int))(n:Nat)(w:World)(e:Ending)(w':World):Prop:=
 ∃g,e= .returned (.pointer (some ⟨g,0,none⟩))/\(∃a ρ,zJ w' w.heap.size g EL n ⟨0,fun _=>0,fun _=>0,fun _=>0,[],[],[]⟩ a ρ)/\Below w.heap.size w w'
theorem q8c{w:World}{o x:Obj}{b:Nat}(h0:w.heap.size<=b)(h1:b<w.heap.size+3):((((w.alloc o).alloc o).alloc o).alloc x).heap[b]? =some o:=by
 have e:∀(W:World) (y:Obj) (k:Nat),k<W.heap.size->(W.alloc y).heap[k]? =W.heap[k]? :=fun W y k hk=>Below.heap_alloc W y k hk;have z1:(w.alloc o).heap.size=w.heap.size+1:=by simp
 have z2:((w.alloc o).alloc o).heap.size=w.heap.size+2:=by simp
 have z3:(((w.alloc o).alloc o).alloc o).heap.size=w.heap.size+3:=by simp
 rw[e _ _ _ (by omega)];by_cases h2:b=w.heap.size+2
 ·have:=Xz ((w.alloc o).alloc o) o;rw[z2]at this;rw[h2];exact this
 rw[e _ _ _ (by omega)];by_cases h3:b=w.heap.size+1
 ·have:=Xz (w.alloc o) o;rw[z1]at this;rw[h3];exact this
 rw[e _ _ _ (by omega)];have:b=w.heap.size:=by omega
 rw[this];exact Xz w o
theorem qbq(n:Nat)(f:Nat->Int)(hf:∀x,f x=0):(Qt n f).map (Value.int .i64)=List.replicate n (.int .i64 0):=by
 refine List.ext_getElem? fun i=> ?_;unfold Qt;rw[XF,XF,List.getElem?_replicate];by_cases h:i<n
 ·rw[List.getElem?_range h,Xb h];simp[hf]
 ·rw[XE (by rw[List.length_range];omega),Xa h];rfl
theorem qb1{EL:List (List Int)}{n:Nat}{E:Option Addr}{ce:Nat}{w:World}(hE:zd (zM zu 1) 1 w w.heap.size E ce EL)(hn:EL.length=n)(hl:n<=1048576)(he:∀l ∈EL,l.length<=1048576){gp gb gg:Nat}
  (h1:w.heap.size<=gp/\gp<w.heap.size+3) (h2:w.heap.size<=gb/\gb<w.heap.size+3) (h3:w.heap.size<=gg/\gg<w.heap.size+3) (h4:gp≠gb/\gp≠gg/\gb≠gg) {W:World}
  (hW:W=((((w.alloc (.cells (madeCells #[Value.int .i64 0] n) 3)).alloc (.cells (madeCells #[Value.int .i64 0] n) 3)).alloc (.cells (madeCells #[Value.int .i64 0] n) 3)).alloc (.cells #[.slice E n ce,.int .i64 0,.slice (some ⟨gp,0,none⟩) n n,.slice (some ⟨gb,0,none⟩) n n,.slice (some ⟨gg,0,none⟩) n n,.slice none 0 0,.slice none 0 0,.slice none 0 0] 174)).drew):
  (∃a ρ,zJ W w.heap.size (w.heap.size+3) EL n ⟨0,fun _=>0,fun _=>0,fun _=>0,[],[],[]⟩ a ρ)/\Below w.heap.size w W:=by
 have hb:Below w.heap.size w W:=by
  rw[hW];exact(((((zk (w:=w)).alloc (by simp) _).alloc (by simp;omega) _).alloc (by simp;omega) _)).drew
 have hm:madeCells #[Value.int .i64 0] n=(List.replicate n (Value.int .i64 0)).toArray:=by
  have:=mi (z:= .int .i64 0) (v:= .int .i64 0) rfl n;have hc:(Value.int .i64 0).cells= #[Value.int .i64 0]:=rfl;rw[Xq,hc]at this;exact Array.toList_inj.mp (by rw[this])
 have hrow:∀b (f:Nat->Int),w.heap.size<=b->b<w.heap.size+3->(∀x,f x=0)->qk W b (Qt n f):=fun b f g0 g1 hf=>by
  unfold qk zm;rw[qbq n f hf,<-hm,hW];exact q8c g0 g1
 refine⟨⟨⟨gp,gb,gg,E,ce,none,0,none,0,none,0,[]⟩,fun b=>if b<w.heap.size then 9 else if b=gp then 1 else if b=gb then 2 else if b=gg then 3 else if b=w.heap.size+3 then 0 else 10,?_⟩,hb⟩;refine⟨fun b q=>Xb q,hb.size,hn,Xn _,hl,hE.below_to (zM.keeps zu.keeps 1) hb (zn _),he,?_,hrow _ _ h1.1 h1.2 (fun _=>rfl),hrow _ _ h2.1 h2.2 (fun _=>rfl),hrow _ _ h3.1 h3.2 (fun _=>rfl),XM _ _ _ _,XM _ _ _ _,XM _ _ _ _,fun i v c hv=>by simp at hv,?_,?_,?_,?_,fun b q=>by simp[Value.ownBlock]at q,fun b q=>by simp[Value.ownBlock]at q,fun b q=>by simp[Value.ownBlock]at q⟩
 ·unfold zm;rw[hW];have:=Xz (((w.alloc (.cells (madeCells #[Value.int .i64 0] n) 3)).alloc (.cells (madeCells #[Value.int .i64 0] n) 3)).alloc (.cells (madeCells #[Value.int .i64 0] n) 3)) (.cells #[.slice E n ce,.int .i64 0,.slice (some ⟨gp,0,none⟩) n n,.slice (some ⟨gb,0,none⟩) n n,.slice (some ⟨gg,0,none⟩) n n,.slice none 0 0,.slice none 0 0,.slice none 0 0] 174);have hz:(((w.alloc (.cells (madeCells #[Value.int .i64 0] n) 3)).alloc (.cells (madeCells #[Value.int .i64 0] n) 3)).alloc (.cells (madeCells #[Value.int .i64 0] n) 3)).heap.size=w.heap.size+3:=by simp
  rw[hz]at this;exact this
 ·try dsimp only
  rw[Xa (by omega),Xa (by omega),Xa (by omega),Xa (by omega),Xb rfl]
 ·try dsimp only
  rw[Xa (by omega),Xb rfl]
 ·try dsimp only
  rw[Xa (by omega),Xa (by omega),Xb rfl]
 ·try dsimp only
  rw[Xa (by omega),Xa (by omega),Xa (by omega),Xb rfl]
set_option maxHeartbeats 1600000 in
theorem q60(EL:List (List Int))(n:Nat)(E:Option Addr)(ce:Nat)(w:World)(hE:zd (zM zu 1) 1 w w.heap.size E ce EL)(hn:EL.length=n)(hl:n<=1048576)(he:∀l ∈EL,l.length<=1048576):
  Calls Tryz.prog 113 #[.slice E n ce] w (qin EL n w):=by
 have HE:=zH hE;have HN:=zH hn;have av:=zH he;clear hE hn he;have hmk:=run_make_row' (P:=Tryz.prog) 27 3 (.int .i64 0) 8 Tryz.underlying27 ZL rfl .i64 .i64 n (by omega) (by omega);go_enter Tryz.func113,Tryz.ntmps113;go_wp2_with fail
 go_region
 all_goals
  go_wp2_with fail
  go_ret;exact⟨_,rfl,qb1 HE.out HN.out hl av.out ⟨by omega,by omega⟩ ⟨by omega,by omega⟩ ⟨by omega,by omega⟩ ⟨by omega,by omega,by omega⟩ rfl⟩
structure eY(w:World)(B:Nat)(A:Option Addr)(c:Nat)(P:List (List Nat)):Prop where
 le:P.length<=c
 cap:c<=9223372036854775807
 row:∀(i:Nat) (p:List Nat),P[i]? =some p->∃g gi ci,A=some ⟨g,0,none⟩/\B<=g/\g<w.heap.size/\w.cell? ⟨g,i,none⟩=some (.slice (some ⟨gi,0,none⟩) p.length ci)/\B<=gi/\gi<w.heap.size/\p.length<=ci/\ci<=9223372036854775807/\∀(j v:Nat),p[j]? =some v->w.cell? ⟨gi,j,none⟩=some (.int .i64 (v:Int))
theorem eY.keep{w w':World}{B:Nat}{A:Option Addr}{c:Nat}{P:List (List Nat)}(h:eY w B A c P)(hz:w.heap.size<=w'.heap.size)(hk:∀b,B<=b->b<w.heap.size->w'.heap[b]? =w.heap[b]?):eY w' B A c P:=
 ⟨h.le,h.cap,fun i p hp=>by
  obtain⟨g,gi,ci,h1,h2,h3,h4,h5,h6,h7,h8,h9⟩:=h.row i p hp;exact⟨g,gi,ci,h1,h2,by omega,(XU (w:=w) (hk g h2 h3)).trans h4,h5,by omega,h7,h8,fun j v hj=>(XU (w:=w) (hk gi h5 h6)).trans (h9 j v hj)⟩⟩
theorem zJ.parts_at{w:World}{B g n:Nat}{EL:List (List Int)}{S:Wk}{a:fC}{ρ:Nat->Nat}(h:zJ w B g EL n S a ρ):eY w B a.Ap a.cp S.parts:=by
 have hl:a.vs.length=S.parts.length:=by have:=h.prt.1;simpa using this
 rcases Nat.eq_zero_or_pos S.parts.length with h0|h0
 ·have hc:=h.prt.2;refine⟨?_,?_,fun i p hp=>by have:=(Xv.mp hp).1;omega⟩
  ·omega
  ·rcases hc with⟨hv,_⟩|⟨g,cap,cur,hv,_,_,_,h2,_⟩
   ·injection hv with e1 e2 e3;omega
   ·injection hv with e1 e2 e3;unfold maxLen at h2;omega
 obtain⟨g',e,h1,h2,h3,h4⟩:=pR h.prt h0;refine⟨h1,h2,fun i p hp=> ?_⟩;have hi:=(Xv.mp hp).1;have hv:a.vs[i]? =some (a.vs[i]'(by omega)):=Xc (by omega);obtain⟨gi,ci,rest,e1,b1,b2,b3,b4,b5⟩:=h.pin i _ p hv hp;have hrow:=h.prt;rw[e]at hrow;rw[e1]at hv;refine⟨g',gi,ci,e,h4,h3,pU hrow hv,b1,zm.lt b5,b3,b4,fun j v hj=> ?_⟩;exact b5.cells j _ (by rw[XO (by rw[ED];exact(Xv.mp hj).1)];exact mE hj)
def WV(EL:List (List Int))(n:Nat)(w:World)(e:Ending)(w':World):Prop:=
 ∃A c P,e= .returned (.slice A (List.length P) c)/\Qk EL n P/\eY w' w.heap.size A c P/\Below w.heap.size w w'
set_option maxHeartbeats 1600000 in
theorem q62(EL:List (List Int))(n:Nat)(E:Option Addr)(ce:Nat)(w:World)(hE:zd (zM zu 1) 1 w w.heap.size E ce EL)(hn:EL.length=n)(hl:n<=1048576)(he:∀l ∈EL,l.length<=1048576):
  Calls Tryz.prog 60 #[.slice E n ce] w (WV EL n w):=by
 have HS:=zH (q60 EL n E ce w hE hn hl he);clear hE hn he;obtain⟨B,hB⟩:=zj (w.heap.size);go_enter Tryz.func60,Tryz.ntmps60;go_wp2_with(go_at_call 113;go_loud (refine HS.out.mono ?_);rintro e w1 ⟨g,rfl,hW,hb⟩;have HW1:=zH hW;have X1:=zH hb;clear hW hb)
 have HI:Hid (∃S a ρ,zJ w1 w.heap.size g EL n S a ρ/\zY EL n S/\S.way=[]/\∀x,x<0->0<S.place x):=zH (by
  obtain⟨a,ρ,h⟩:=HW1.out;exact⟨_,a,ρ,h,zY.start,rfl,fun x hx=>by omega⟩)
 clear HW1;go_loopw [9] (fun i wr=>∃k:Nat,k<=n/\i= .int .i64 k/\Hid (∃S a ρ,zJ wr w.heap.size g EL n S a ρ/\zY EL n S/\S.way=[]/\∀x,x<k->0<S.place x)/\Hid (Below w.heap.size w wr)) (fun i _=>n - (intOf i).toNat)
 case atStart=>exact⟨0,Xn _,rfl,HI,X1⟩
 case round=>
  clear HI X1;obtain⟨k,hk,rfl,HI,HX⟩:=hrel;obtain⟨S,a,ρ,hW,hT,hw,hp⟩:=HI.out;clear HI;have HW:=zH hW;have HT:=zH hT;have tL:=zH hw;have HP:=zH hp;clear hW hT hw hp;obtain⟨gp,gb,gg,E1,ce1,Ay,cy,Ao,co,Ap,cp,vs⟩:=a;by_cases hkn:k<n
  ·have q2:=HW.out.blk.cells 2 _ rfl;obtain⟨c2,_⟩:=HW.out.p_at hkn;dsimp only at q2 c2;obtain⟨pk,hpk⟩:∃z,S.place k=z:=⟨_,rfl⟩
   rw[hpk]at c2;have sS:=zH hpk;clear hpk;by_cases h0:pk=0
   ·have hcmp:((pk:Int)==0)=true:=by simpa using h0
    have VZ:=zH (qbc w.heap.size g n k EL S _ ρ wr HW.out HT.out tL.out hkn (by rw[sS.out];exact h0));clear h0;go_wp2_with(go_at_call 114;go_loud (refine VZ.out.mono ?_);rintro e w5 ⟨rfl,hf,hb⟩;have HF:=zH hf;have X5:=zH (HX.out.trans hb);clear hf hb)
    go_roundw;case rel=>
     obtain⟨S',a',ρ',h1,h2,h3,h4,h5⟩:=HF.out;refine⟨k+1,by omega,by go_num,zH ⟨S',a',ρ',h1,h2,h3,fun x hx=> ?_⟩,X5⟩;rcases Xl x k with q|q
     ·exact h4 x (HP.out x q)
     ·obtain rfl:x=k:=by omega
      exact h5
    case measure=>simp[intOf];omega
   ·have hp0:¬(pk:Int)=0:=by omega
    have hcmp:((pk:Int)==0)=false:=by simpa using h0
    go_wp2_with fail
    go_roundw;case rel=>
     refine⟨k+1,by omega,by go_num,zH ⟨S,_,_,HW.out,HT.out,tL.out,fun x hx=> ?_⟩,HX⟩;rcases Xl x k with q|q
     ·exact HP.out x q
     ·obtain rfl:x=k:=by omega
      rw[sS.out];omega
    case measure=>simp[intOf];omega
  ·obtain rfl:k=n:=by omega
   have q7:=HW.out.blk.cells 7 _ rfl;dsimp only at q7;go_wp2_with fail
   go_ret;exact⟨Ap,cp,S.parts,rfl,HT.out.end_ tL.out HP.out,HW.out.parts_at,HX.out⟩
def JW(L:List Int)(p:List Nat):Bool:=L.any fun t=>p.any fun v=>decide ((v:Int)=t)
def iL(EL:List (List Int))(p:List Nat):Bool:=p.any fun f=>JW (eds EL f) p
theorem qcv{L:List Int}{p:List Nat}{s:Nat}(hs:s<L.length):JW (L.take (s+1)) p=(JW (L.take s) p||p.any fun v=>decide ((v:Int)=L[s])):=by
 unfold JW;rw[Xx,Xc hs,List.any_append];simp
theorem qcw{L:List Int}{p:List Nat}{k:Nat}(h:JW (L.take k) p=true):JW L p=true:=by
 unfold JW at h⊢
 grind
theorem qk4{EL:List (List Int)}{p:List Nat}:iL EL p=true↔∃f ∈p,∃t ∈p,kV EL f t:=by
 unfold iL JW;rw[Wn];constructor
 ·rintro⟨f,hf,h⟩;obtain⟨t,ht,h⟩:=Wn.mp h;obtain⟨v,hv,h⟩:=Wn.mp h;have e:(v:Int)=t:=by grind
  exact⟨f,hf,v,hv,by unfold kV;grind⟩
 ·rintro⟨f,hf,t,ht,h⟩;exact⟨f,hf,Wn.mpr ⟨(t:Int),h,(by grind)⟩⟩
def Qv(p:List Nat)(g:Nat):Bool:=p.any fun v=>decide (v=g)
theorem qjw{p:List Nat}{t:Nat}:(p.any fun v=>decide ((v:Int)=(t:Int)))=Qv p t:=by
 unfold Qv
 grind
theorem qhh{p:List Nat}{t:Nat}(ht:t<p.length)(g:Nat):Qv (p.take (t+1)) g=(Qv (p.take t) g||decide (g=p[t])):=by
 unfold Qv
 grind [Xx,Xc]
set_option maxHeartbeats 1600000 in
theorem q67(L:List Int)(p:List Nat)(n b:Nat)(A:Option Addr)(c:Nat)(w:World)(hL:zd zu 1 w w.heap.size A c L)(hM:ve w b (Qv p) n)(hn:n<=1048576)(hr:∀t ∈L,0<=t/\t<(n:Int)):
  Calls Tryz.prog 117 #[.slice A L.length c,.map (some b)] w fun e w'=>e= .returned (.bool (JW L p))/\Below w.heap.size w w':=by
 have lu:=zH hL;have HM:=zH hM;have HR:=zH hr;have hb:=hM.lt;have hc1:=hL.le;have hc2:=hL.cap;clear hL hM hr;go_enter Tryz.func117,Tryz.ntmps117;go_wp2_with fail
 go_loopw [11] (fun i wr=>∃s:Nat,s<=L.length/\i= .int .i64 s/\Hid (JW (L.take s) p=false)/\Hid (Below w.heap.size w wr)) (fun i _=>L.length - (intOf i).toNat)
 case atStart=>exact⟨0,Xn _,rfl,zH rfl,zH (zb _ _)⟩
 case round=>
  obtain⟨s,hs,rfl,HF,HX⟩:=hrel;by_cases hsl:s<L.length
  ·obtain⟨t,ht⟩:=zj (L[s]);obtain⟨t0,t1⟩:=HR.out t (by grind);obtain⟨ad,rfl,hab,hc⟩:=lu.out.row.at_ hsl;rw[Xq,ht]at hc;have c0:=(HX.out.cell (p:=ad.add s) (by grind [zC])).trans hc;obtain⟨tn,rfl⟩:=Xj t0;have htn:tn<n:=by omega
   have jS:Hid (JW (L.take (s+1)) p=Qv p tn):=zH (by rw[qcv hsl,HF.out,Bool.false_or,ht,qjw]);have BZ:=zH (HM.out.below HX.out hb);clear hc t0 t1 ht hab;cases hq:Qv p tn
   ·have HQ:=zH hq;clear hq;go_upto_region 4 with fail
    go_wp2_with(at_lookup;go_loud (refine PM _ rfl _ _ 176 rfl Tryz.underlying176 b n tn (Qv p) false rfl BZ.out htn hn rfl HQ.out ?_))
    go_roundw;case rel=>exact⟨s+1,by omega,by go_num,zH (jS.out.trans HQ.out),zH (HX.out.alloc HX.out.size _)⟩
    case measure=>simp[intOf];omega
   ·have HQ:=zH hq;clear hq;go_upto_region 4 with fail
    go_wp2_with(at_lookup;go_loud (refine PM _ rfl _ _ 176 rfl Tryz.underlying176 b n tn (Qv p) true rfl BZ.out htn hn rfl HQ.out ?_))
    go_ret;exact⟨by rw[qcw (jS.out.trans HQ.out)];rfl,HX.out.alloc HX.out.size _⟩
  ·obtain rfl:s=L.length:=by omega
   rw[XL]at HF;go_wp2_with fail
   go_ret;exact⟨by rw[HF.out];rfl,HX.out⟩
theorem Tf{L:List Int}{p:List Nat}{n b c k:Nat}{A:Option Addr}{w:World}{r:Bool}(HL:Hid (zd zu 1 w w.heap.size A c L))(HM:Hid (ve w b (Qv p) n))(hn:n<=1048576)(HR:Hid (∀t ∈L,0<=t/\t<(n:Int)))(HB:Hid (JW L p=r))(HK:Hid (L.length=k)):
  Calls Tryz.prog 117 #[.slice A k c,.map (some b)] w fun e w'=>e= .returned (.bool r)/\Below w.heap.size w w':=by
 obtain rfl:=HK.out;have:=q67 L p n b A c w HL.out HM.out hn HR.out;rw[HB.out]at this;exact this
theorem yP{w w':World}(h:Below w.heap.size w w'):w.grownBy w' none:=⟨h.os,h.tape,h.output,h.size,fun k hk _=>h.block k hk⟩
set_option maxHeartbeats 3200000 in
theorem q4o(EL:List (List Int))(n:Nat)(E:Option Addr)(ce:Nat)(p:List Nat)(A:Option Addr)(c:Nat)(w:World)(hE:zd (zM zu 1) 1 w w.heap.size E ce EL)(hn:EL.length=n)(hl:n<=1048576)(he:∀f:Nat,∀t ∈eds EL f,0<=t/\t<(n:Int))(hp:∀v ∈p,v<n)(hA:zw w w.heap.size A (qe p))(hc1:p.length<=c)(hc2:c<=9223372036854775807):
  Calls Tryz.prog 62 #[.slice E n ce,.slice A p.length c] w fun e w'=>e= .returned (.bool (iL EL p))/\Below w.heap.size w w':=by
 have qlo:=hE.le;rw[hn]at qlo;have HE:=zH hE;have HN:=zH hn;have av:=zH he;have HP:=zH hp;have HA:=zH hA;have hmm:= @run_makeMap Tryz.prog;have Zd:=zH ((ve.made w n).cong (q:=Qv (p.take 0)) (fun g _=>by simp[Qv]));have HX0:=zH (zk (w:=w) (o:=(.map #[] 0)));clear hE hn he hp hA;go_enter Tryz.func62,Tryz.ntmps62;go_wp2_with fail
 go_loopw [12] (fun i wr=>∃t:Nat,t<=p.length/\i= .int .i64 t/\Hid (ve wr w.heap.size (Qv (p.take t)) n)/\Hid (Below w.heap.size w wr)) (fun i _=>p.length - (intOf i).toNat)
 case atStart=>grind
 case round=>
  clear Zd HX0;obtain⟨t,ht,rfl,HM,HX⟩:=hrel;by_cases htp:t<p.length
  ·obtain⟨x,hx⟩:=zj (p[t]);have hxn:=HP.out x (by grind);obtain⟨ad,rfl,hab,hc⟩:=HA.out t (.int .i64 (x:Int)) (mE (by grind));have c0:=(HX.out.cell (p:=ad.add t) (by grind [zC])).trans hc;have jS:=zH (fun g:Nat=>qhh htp g);rw[hx]at jS;clear hc hx hab;go_wp2_with(at_mapUpdate;go_loud (refine Pg _ rfl _ _ _ 176 (.inl rfl) Tryz.underlying176 w.heap.size n x _ rfl HM.out hxn hl rfl rfl ?_);intro w7 Cy iT;have N8:=zH Cy;have Zf:=zH (HX.out.grown iT HX.out.size (by grind));clear Cy iT)
   go_roundw;case rel=>exact⟨t+1,by omega,by go_num,zH (N8.out.cong (fun g _=>(jS.out g).symm)),Zf⟩
   case measure=>simp[intOf];omega
  ·obtain rfl:t=p.length:=by omega
   rw[XL]at HM;have hbl:=HM.out.lt;obtain⟨D,hD,hh⟩:=HM.out;have HH:=zH hh;have FN:=HM;clear HM hh;obtain⟨w0,hw0⟩:∃W,W=wr:=⟨_,rfl⟩
   subst hw0;go_wp2_with(at_range;go_loud (refine wpList_range_own _ rfl _ 176 rfl 3 177 rq Tryz.underlying176 _ w.heap.size _ D rfl hD ?_);intro w3 hrg0 hg0 hs0)
   have HMP:Hid (∀x:Int,Go.Maps.has D (.int .i64 x)=true↔∃g:Nat,x=(g:Int)/\g<n/\Qv p g=true):=zH (fun x=>by
    rw[HH.out x,Xw,pV])
   have Vm:=zH (FN.out.kept hg0 (by simp));have zp:=zH (HX.out.grown hg0 HX.out.size (by grind));have HD0:Hid (∀x:Nat,Go.Maps.has D (.int .i64 (x:Int))=true->Go.Maps.has D (.int .i64 (x:Int))=false->JW (eds EL x) p=false):=(by grind [zH])
   go_frame
   go_loopw [8] (fun _ wr=>∃(left:Lit->Bool) (cnt:Nat),wr.ranges Tryz.prog 3 (unitElem (H:=Unit)) w.heap.size w0.heap.size (Go.Maps.size D) D left cnt/\Hid (∀x:Nat,Go.Maps.has D (.int .i64 (x:Int))=true->left (.int .i64 (x:Int))=false->JW (eds EL x) p=false)/\Hid (ve wr w.heap.size (Qv p) n)/\Hid (Below w.heap.size w wr)) (fun _ wr=>wr.rangeLeft w.heap.size w0.heap.size)
   case atStart=>grind
   case round=>
    clear HD0 Vm zp HX FN;obtain⟨left,cnt,hrg,xD,FN,HX⟩:=hrel;go_wp2_with(at_next;go_loud (refine wpList_next_ranges _ rfl _ rfl 3 rq (unitElem (H:=Unit)) (Value.int .i64) (fun _:Unit=> .agg #[]) (by grind [Maps.keyOf_int_inv,Tryz.underlying3]) (fun v y hv=>by obtain⟨rfl,_⟩:=unitElem_inv hv;simp_all) w.heap.size w0.heap.size _ _ _ _ rfl hrg ?_ ?_))
    ·intro hc0 hl0;have HC:Hid (iL EL p=false):=zH (by
      unfold iL;rw[List.any_eq_false];intro f hf;have hfn:=HP.out f hf;have hb:Qv p f=true:=by unfold Qv;exact Wn.mpr ⟨f,hf,by simp⟩
      rw[xD.out f ((HMP.out f).mpr ⟨f,rfl,hfn,hb⟩) (hl0 _)];simp)
     clear hc0 hl0 hrg;go_wp2_with fail
     go_ret;exact⟨by rw[HC.out];rfl,HX.out⟩
    ·intro x c kl y w2 cnt2 hkey hlk hv hat hrg2 hlt hg2 hs2 hen;obtain⟨x',ex,rfl,_⟩:=Maps.keyOf_int_inv Tryz.underlying3 hkey;cases ex;obtain⟨f,rfl,hfn,hfp⟩:=(HMP.out x).mp (Go.Maps.has_true_of_atKey hat);have Zl:=zH (FN.out.kept hg2 (by simp;omega));have HX2:=zH (HX.out.grown hg2 HX.out.size (fun j hj=>by cases hj;omega));have hfl:f<EL.length:=by rw[HN.out];exact hfn
     obtain⟨L,hL⟩:=zj (EL[f]);have MV:eds EL f=L:=by unfold eds;rw[Xc hfl,hL];rfl
     obtain⟨dI,rfl,hab,AL,cL,xw,uE⟩:=HE.out.row f L (by rw[Xc hfl,hL]);rw[Xq]at xw;have lu:=zH uE;have uB:Hid (∀t ∈L,0<=t/\t<(n:Int)):=zH (fun t ht=>av.out f t (by rw[MV];exact ht));have Yi:=zH MV;have Cu:=zH xw;have jS:=zH (Ko (some dI) n ce (f:Int) w2 true (by rw[Xi (by omega),Xi (by omega)];rfl));clear hs2 hkey hv uE xw hL hfl MV;have Cq:Hid (JW L p=true->iL EL p=true):=zH (fun q=>by
      unfold Qv at hfp;obtain⟨v,hv,e⟩:=Wn.mp hfp;have e:v=f:=by simpa using e
      subst e;exact Wn.mpr ⟨v,hv,by rw[Yi.out];exact q⟩)
     clear hfp hat
     cases hq:JW L p
     ·have HQ:=zH hq;clear hq;go_wp2_with(first|(go_at_call 116;go_loud (refine jS.out.mono ?_);rintro e w4 ⟨rfl,hb4⟩;have HR4:=zH (hrg2.kept (yP hb4) (by simp) (by simp));have nQ:=zH (Zl.out.kept (yP hb4) (by simp));have HX4:=zH (HX2.out.trans (hb4.mono HX2.out.size));have c4:=(HX4.out.cell (p:=dI.add f) (by exact zZ hab)).trans Cu.out;have JE:=zH ((lu.out.below_to zu.keeps HX4.out (zn _)).keep' zu.keeps HX4.out.size (fun _ _=>rfl));clear hb4)|(go_at_call 117;go_loud (refine(Tf JE nQ hl uB HQ (zH rfl)).mono ?_);rintro e w5 ⟨rfl,hb5⟩;have yD:=zH (HR4.out.kept (yP hb5) (by simp) (by simp));have nY:=zH (nQ.out.kept (yP hb5) (by simp));have qc:=zH (HX4.out.trans (hb5.mono HX4.out.size));clear hb5))
      go_roundw;case rel=>
       refine⟨_,cnt2,yD.out,zH (fun z h1 h2=> ?_),nY,qc⟩;by_cases e:z=f
       ·subst e;rw[Yi.out,HQ.out]
       ·refine xD.out z h1 ?_;have:((Lit.int .i64 (z:Int)).sameKey (.int .i64 (f:Int)))=false:=by simp[Lit.sameKey];omega
        rw[this]at h2;simpa using h2
      case measure=>rw[yD.out.left_eq,hrg.left_eq];exact hlt
     ·have HQ:=zH hq;clear hq;go_wp2_with(first|(go_at_call 116;go_loud (refine jS.out.mono ?_);rintro e w4 ⟨rfl,hb4⟩;have nQ:=zH (Zl.out.kept (yP hb4) (by simp));have HX4:=zH (HX2.out.trans (hb4.mono HX2.out.size));have c4:=(HX4.out.cell (p:=dI.add f) (by exact zZ hab)).trans Cu.out;have JE:=zH ((lu.out.below_to zu.keeps HX4.out (zn _)).keep' zu.keeps HX4.out.size (fun _ _=>rfl));clear hb4)|(go_at_call 117;go_loud (refine(Tf JE nQ hl uB HQ (zH rfl)).mono ?_);rintro e w5 ⟨rfl,hb5⟩;have qc:=zH (HX4.out.trans (hb5.mono HX4.out.size));clear hb5))
      go_ret;exact⟨by rw[Cq.out HQ.out];rfl,qc.out⟩
