import Derived.Test.YtcmiljnbmgkdnaaGreatFB38
import Derived.Test.YtcmiljnbmgkdnaaGreatFB35
import Derived.Test.YtcmiljnbmgkdnaaGreatFB34
namespace Go.Proofs.YtcmiljnbmgkdnaaGreat
set_option maxRecDepth 100000
set_option linter.unusedVariables false
set_option linter.unusedSimpArgs false
open Go.ChangeShapes Go.WideShapes Go.ChangeAt Go.RowKit
def q63(B:List Int)(s f:Int):Int:=if oN B f.toNat>s then oN B f.toNat else s
def Jl(B:List Int)(L:List Int):Int:=L.foldl (q63 B) 0
def YL(m:za)(l:List (List zo)):Int:=Jl (Qc m l) m.entries
def YX(m:za):Int:=m.statics.length+jb m m.entries
theorem qa5{m:za}(h:qR m=0){f:Int}(hf:f ∈m.entries):0≤f∧f<m.methods.length:=by
 have hfit:zK m=true:=by
  cases hq:zK m with
  |true=>rfl
  |false=>rw[q3c hq]at h;cases h
 have hok:okB m=true:=by
  cases hq:okB m with
  |true=>rfl
  |false=>rw[q6r hfit hq]at h;cases h
 unfold okB at hok;simp only[Xr]at hok;have h1:=Xx.mp hok.2.2.2 f hf;have h0:=((Yb hfit).et f hf).1;refine⟨h0,?_⟩;rcases Xk f.toNat m.methods.length with q|q
 ·omega
 ·unfold Ye at h1;rw[Xv q]at h1;cases h1
theorem qb2{m:za}(h:qR m=0):Zt m=true:=by
 have hfit:zK m=true:=by
  cases hq:zK m with
  |true=>rfl
  |false=>rw[q3c hq]at h;cases h
 have hf:=Yb hfit;unfold Zt;rw[Xm (by have:=hf.ml;omega),Xm (by have:=hf.cl;omega),Xm (by have:=hf.il;omega),Xm h];rfl
theorem qh9{m:za}(h:Zt m=true):qR m=0:=by
 unfold Zt at h;simp only[Xr,Xt]at h;exact h.2.2.2
def JF(T L:List Int):List Int:=L.map (fun f=>oN T f.toNat)
theorem qmc{T L:List Int}{k:Nat}(h:k<L.length):JF T (L.take (k+1))=JF T (L.take k)++[oN T L[k].toNat]:=by
 unfold JF;rw[XH,Xc h,XY];rfl
theorem qah(T L:List Int):(JF T L).foldl mx 0=Jl T L:=by
 unfold JF Jl;rw[List.foldl_map];rfl
theorem qqw{T L:List Int}(h:∀t,0≤oN T t):∀x ∈JF T L,0≤x:=fun x hx=>by
 obtain⟨f,_,rfl⟩:=XW.mp hx;exact h _
set_option maxHeartbeats 1600000 in
theorem qqz(T L:List Int)(A B:Option Addr)(c cb n:Nat)(w:World)(hT:ze zl 1 w w.heap.size A c T)(hn:T.length=n)(hn2:n≤1000)(hL:ze zl 1 w w.heap.size B cb L)(hl:L.length≤1000)(hin:∀f ∈L,0≤f∧f<n)(h0:∀t,0≤oN T t):
  Calls Tryz.prog 28 #[.slice A n c,.slice B L.length cb] w fun e w'=>e= .returned (.int .i64 (Jl T L))∧Below w.heap.size w w':=by
 obtain⟨i1,hi1,hz01,hz11,hz21⟩:=jU vT;have htl:=hT.le;have htc:=hT.cap;have hll:=hL.le;have hlc:=hL.cap;rw[hn]at htl;have HT:=zH hT.row;have HN:=zH hn;have HL:=zH hL.row;have HIN:=zH hin;have HLOW:=zH h0;obtain⟨r,hr⟩:∃r,Jl T L=r:=⟨_,rfl⟩
 have HR:=zH hr;rw[hr];obtain⟨nl,hnl⟩:∃z,L.length=z:=⟨_,rfl⟩
 have HNL:=zH hnl;rw[hnl]at hl hll⊢
 clear hT hL hin h0 hn hr hnl;have HX0:Hid (Below w.heap.size w w):=zH (zb _ _);go_enter Tryz.func28,Tryz.ntmps28;go_wp2_with fail
 go_loopw [5,10] (fun v i wr=>∃(k:Nat) (U:List Int),k≤nl∧i= .int .i64 k∧Hid (JF T (L.take k)=U)∧U.length=k∧Hid (wr.ownsRow w.heap.size 3 1 v U.length (U.map (Value.int .i64)))∧Hid (Below w.heap.size w wr)) (fun _ i _=>nl - (intOf i).toNat)
 case atStart=>exact⟨0,[],Xp _,rfl,zH rfl,rfl,zH (XQ _ _ _ _),HX0⟩
 case round=>
  clear HX0;obtain⟨k,U,hk,rfl,HU,hUl,HW,HX⟩:=hrel;by_cases hlt:k<nl
  ·have hkl:k<L.length:=by rw[HNL.out];exact hlt
   obtain⟨f,hf⟩:∃f,L[k]=f:=⟨_,rfl⟩
   obtain⟨f0,f1⟩:=HIN.out f (by rw[←hf];exact Xf hkl);obtain⟨fn,rfl⟩:=Xq f0;have hfn:fn<T.length:=by rw[HN.out];omega
   obtain⟨adL,rfl,habL,l0⟩:=HL.out.at_ hkl;rw[Xz,hf]at l0;have l0:=(HX.out.cell (p:=adL.add k) (by rw[zu];exact habL)).trans (show w.cell? (adL.add k)=some (.int .i64 (fn:Int))from l0);obtain⟨adT,rfl,habT,t0⟩:=HT.out.at_ hfn;obtain⟨tv,htv⟩:∃z,oN T fn=z:=⟨_,rfl⟩
   rw[Xz,←ZA hfn,htv]at t0;have t0:=(HX.out.cell (p:=adT.add fn) (by rw[zu];exact habT)).trans (show w.cell? (adT.add fn)=some (.int .i64 tv)from t0);have HY:Hid (JF T (L.take (k+1))=U++[tv]):=zH (by rw[qmc hkl,HU.out,hf,Xi,htv]);have hge:(0:Int)≤(fn:Int):=f0;have hlt2:(fn:Int)<(n:Int):=f1;clear hf htv hfn habL habT hkl;have hsz:=HX.out.size;go_wp2_with(at_builtin;refine Zj rfl _ _ 26 rfl _ 3 i1 (.int .i64 0) 1 8 Tryz.underlying26 hi1 hz01 hz11 hz21 rfl (by decide) _ U.length (U.map (Value.int .i64)) rfl (HW.out.alloc _) (some ⟨wr.heap.size,0,none⟩) 1 1 _ [.int .i64 tv] rfl rfl (q07 wr _ _) (JR rfl) (by unfold maxLen;omega) (by omega) (by simp;omega) ?_;intro v6 w6 hown hgrow;have HW6:=zH hown;have HX6:=zH (jV (HX.out.alloc hsz _) (HW.out.alloc _) (by simp;omega) hgrow);clear hown hgrow)
   go_roundw;case rel=>exact⟨k+1,U++[tv],by omega,by go_num,HY,by simp[hUl],zH (by simpa using HW6.out),HX6⟩
   case measure=>simp[intOf];omega
  ·obtain rfl:k=nl:=by omega
   obtain⟨A7,c7,rfl,hll7,hc1,hc2⟩:=kO HW.out;have HLL:=zH hll7;have HTT:Hid (JF T L=U):=zH (by rw[←HU.out,XK (by rw[HNL.out];omega)]);clear hll7;rw[hUl]at hc1⊢
   by_cases h0:k=0
   ·have HZ:Hid (r=0):=zH (by rw[←HR.out,←qah,HTT.out,List.length_eq_zero_iff.mp (hUl.trans h0)];rfl);have h0i:(k:Int)=0:=by omega
    go_wp2_with fail
    go_ret;exact⟨by rw[HZ.out];first|rfl|done,HX.out⟩
   ·have h0n:0<k:=by omega
    have h0i:((k:Int)==0)=false:=by simpa using h0
    have HMO:Hid (kb U U.length=r):=zH (by
     rw[qd9 (by rw[hUl];exact h0n) (by rw[←HTT.out];exact qqw HLOW.out),←HTT.out,qah,HR.out])
    have HTE:Hid (U.length=k):=zH hUl;go_wp2_with(go_at_call 63;(with_reducible refine(qea HLL HTE h0n (by omega) HMO).mono ?_);rintro e w8 ⟨rfl,rfl⟩)
    go_ret;exact⟨rfl,HX.out⟩
def kM(m:za):List Int:=m.methods.map (·.pot)
theorem qcz(m:za):(kM m).length=m.methods.length:=by unfold kM;rw[Xo]
theorem qef(m:za)(k:Nat):oN (kM m) k=(zw m (k:Int)).pot:=by
 unfold oN kM zw;rw[XB,Xi];cases m.methods[k]? <;>rfl
theorem qo2(m:za)(L:List Int)(h:∀f ∈L,0≤f):Jl (kM m) L=jb m L:=by
 have H:∀(L:List Int) (s:Int),(∀f ∈L,0≤f)→L.foldl (q63 (kM m)) s=L.foldl (jZ m) s:=by
  intro L
  induction L with
  |nil=>intro s _;rfl
  |cons f L ih=>
   intro s hq;obtain⟨n,rfl⟩:=Xq (hq f (XD ..));rw[List.foldl_cons,List.foldl_cons,ih _ (fun g hg=>hq g (XF _ hg))];congr 1;unfold q63 jZ;rw[Xi,qef]
 exact H L 0 h
theorem qs4{m:za}(hm:zN m)(t:Nat):0≤oN (kM m) t:=by
 rw[qef];unfold zw;rw[Xi];rcases Xk t m.methods.length with q|q
 ·rw[Xc q];exact(hm.method (Xf q)).fits.p0
 ·rw[Xv q];exact XE _
set_option maxHeartbeats 1600000 in
theorem qqx(m:za)(h:zi)(n:Nat)(w:World)(H:zm w w.heap.size h m)(hn:m.methods.length=n)(hn12:n≤12):
  Calls Tryz.prog 29 #[zp h m] w fun e w'=>∃g,e= .returned (.slice (some ⟨g,0,none⟩) n n)∧ze zl 1 w' w'.heap.size (some ⟨g,0,none⟩) n (kM m)∧Below w.heap.size w w':=by
 obtain⟨i1,hi1,hy0,hy1,hy2⟩:=jU vT;have HW:=zH (vr (w:=w) (h:=h) (m:=m));have HBX:=zH (ql w h m);have HZ:Hid (w.heap.size<(w.alloc (zg h m)).heap.size):=zH (by simp);have HI:=zH (H.now HW.out);have hle:=H.methods.le;have hcap:=H.methods.cap;have HN:=zH hn;rw[hn]at hle;clear H hn;obtain⟨A0,Ab,A2,A3,A4,k0,k1,k2,k3,k4⟩:=h;dsimp only at hle hcap;go_enter Tryz.func29,Tryz.ntmps29;go_upto_region 1 with fail
 generalize w.alloc (zg ⟨A0,Ab,A2,A3,A4,k0,k1,k2,k3,k4⟩ m)=w1 at*
 obtain⟨q0,q1,q2,q3,q4,q5,q6⟩:=HBX.out;dsimp only at q0 q1 q2 q3 q4 q5 q6;rw[HN.out]at q3;go_upto_region 2 with(at_make;refine wpList_make_full _ rfl _ _ 26 rfl w1.heap.size 3 i1 (.int .i64 0) 1 Tryz.underlying26 hi1 hy0 hy1 .i64 .i64 _ _ n rfl rfl rfl rfl (by rw[hy2];omega) (by unfold maxLen;omega) (zn _) ?_;intro w3 hown hgrow;have HO3:=zH hown;have HB3:=zH ((zb w1.heap.size w1).grown hgrow (zn _) (fun k hk=>by cases hk));clear hown hgrow)
 have HNI:Hid (qg w3 w1.heap.size (List.replicate n 0)):=zH (by
  have h1:=q2j HO3.out;rw[q1f (v:= .int .i64 0) rfl]at h1;unfold qg;rw[List.map_replicate];exact h1)
 obtain⟨gB,hgB⟩:∃z,w1.heap.size=z:=⟨_,rfl⟩
 have HGB:Hid (w1.heap.size≤gB):=zH (by rw[hgB];exact zn _);have HRL:Hid ((List.replicate n (0:Int)).length=n):=zH (by simp);rw[hgB]at HNI;clear HO3 q0 q1 q2 q3 q4 q5 q6;try simp only[hgB]
 clear hgB;generalize(List.replicate n (0:Int))=O0 at*
 obtain⟨q0,q1,q2,q3,q4,q5,q6⟩:=HBX.out.keep HB3.out HZ.out;dsimp only at q0 q1 q2 q3 q4 q5 q6;rw[HN.out]at q3;go_wp2_with fail
 clear q0 q1 q2 q3 q4 q5 q6;go_loopw [13] (fun i wr=>∃(k:Nat) (O:List Int),k≤n∧i= .int .i64 k∧Hid (O.length=n)∧Hid (∀t,t<k→oN O t=oN (kM m) t)∧Hid (qg wr gB O)∧Hid (Below w1.heap.size w1 wr)) (fun i _=>n - (intOf i).toNat)
 case atStart=>exact⟨0,O0,Xp _,rfl,HRL,zH (fun t ht=>absurd ht (Nat.not_lt_zero _)),HNI,HB3⟩
 case round=>
  clear HNI HB3 HRL;obtain⟨k,O,hk,rfl,HOL,HE,HO,HX⟩:=hrel;by_cases hlt:k<n
  ·have hkm:k<m.methods.length:=by rw[HN.out];exact hlt
   obtain⟨ad,hxx,eA,hab,hin,hcm⟩:=Qe HI.out hkm;dsimp only at eA;subst eA;have hpk:oN (kM m) k=m.methods[k].pot:=by unfold oN kM;rw[XB,Xc hkm];rfl
   generalize m.methods[k]=x at*
   obtain⟨b0,b1,b2,b3,b4,b5,b6,b7⟩:=hcm.keep HX.out (by rw[zu];exact hab);obtain⟨xA0,xA1,xA4,xA7,kx0,kx1,kx4,kx7⟩:=hxx;dsimp only at b0 b1 b4 b7;obtain⟨pv,hpv⟩:∃z,x.pot=z:=⟨_,rfl⟩
   rw[hpv]at hpk b6;have HPK:=zH hpk;have hkO:k<O.length:=by rw[HOL.out];exact hlt
   have HA7:Below wr.heap.size wr (wr.alloc (.cells #[.slice xA0 x.args.length kx0,.slice xA1 x.locals.length kx1,.int .i64 x.ret.1,.int .i64 x.ret.2,.slice xA4 x.code.length kx4,.int .i64 x.depth,.int .i64 pv,.slice xA7 x.phi.length kx7] 53)):=(zb _ _).alloc (zn _) _;have HX3:=zj HX HA7;have HO3:=zH (HO.out.keep HA7);have HXB:Hid (zd (wr.alloc (.cells #[.slice xA0 x.args.length kx0,.slice xA1 x.locals.length kx1,.int .i64 x.ret.1,.int .i64 x.ret.2,.slice xA4 x.code.length kx4,.int .i64 x.depth,.int .i64 pv,.slice xA7 x.phi.length kx7] 53)) wr.heap.size [.slice xA0 x.args.length kx0,.slice xA1 x.locals.length kx1,.int .i64 x.ret.1,.int .i64 x.ret.2,.slice xA4 x.code.length kx4,.int .i64 x.depth,.int .i64 pv,.slice xA7 x.phi.length kx7] 53):=zH (zd.new wr _ _);have hki:(k:Int)<(n:Int):=by omega
   clear hpk hpv hin hcm hab HA7;go_upto_region 5 with fail
   clear b0 b1 b2 b3 b4 b5 b6 b7;obtain⟨N,hN⟩:∃z,wr.heap.size=z:=⟨_,rfl⟩
   simp only[hN]at HXB⊢
   generalize wr.alloc (.cells #[.slice xA0 x.args.length kx0,.slice xA1 x.locals.length kx1,.int .i64 x.ret.1,.int .i64 x.ret.2,.slice xA4 x.code.length kx4,.int .i64 x.depth,.int .i64 pv,.slice xA7 x.phi.length kx7] 53)=w4 at*
   have c6:=(zd.cells HXB.out) 6 _ rfl;have o1:=HO3.out.at_ hkO;have of:=zd.free HO3.out k;go_wp2_with fail
   go_roundw;case rel=>exact⟨k+1,O.set k pv,by omega,by go_num,zH (by rw[XI,HOL.out]),zH (fun t ht=>by
     rw[Yd hkO];by_cases q:t=k
     ·rw[Xb q,q,HPK.out]
     ·rw[Xa q];exact HE.out t (by omega)),zH (HO3.out.set pv),zH (HX3.out.setCell HGB.out _)⟩
   case measure=>simp[intOf];omega
  ·obtain rfl:k=n:=by omega
   have HOE:Hid (O=kM m):=zH (We (by rw[HOL.out,qcz,HN.out]) fun i h1 h2=>by
    have:=HE.out i (by rw[←HOL.out];exact h1);rw[ZA h1,ZA h2]at this;exact this)
   go_wp2_with fail
   go_ret;exact⟨gB,rfl,by rw[←HOE.out];exact HO.out.slc HOL.out (by omega),HW.out.trans (HX.out.mono (Xh HZ.out))⟩
def qce(m:za)(maps:List (List zo))(w:World)(e:Ending)(w':World):Prop:=∃A n c er,e= .returned (.tuple #[.slice A n c,.int .i64 er])∧Below w.heap.size w w'∧(jE m=false→er=5∧n=0)∧(jE m=true→er=0∧n=m.methods.length∧ze zl 1 w' w'.heap.size A c (Qc m maps)∧∀ad,A=some ad→w.heap.size≤ad.block)
theorem qo7{w:World}{B c g i:Nat}{A:Option Addr}{P:List (List Nat)}{v:Value}(h:QY w B A c P)(hg:g<B):QY (w.setCell ⟨g,i,none⟩ v) B A c P:=
 h.keep (by simp) (fun b hb _=>Below.heap_setCell w ⟨g,i,none⟩ v b (by show b≠g;omega))
theorem qgw{m:za}{f:Nat}{b:Bool}(h:ju (jY m) m.methods.length f f=b):Va m f=jA m b f:=by
 unfold Va jA;rw[h]
theorem qqu{m:za}{f:Nat}{b:Bool}(h:ju (jY m) m.methods.length f f=b)(h0:jA m b f=0):Vf m f=true:=by
 unfold Vf;rw[h];unfold jA at h0;cases b
 ·rw[Xa (by decide)]at h0;omega
 ·rw[Xb rfl]at h0;rw[h0];rfl
theorem qkp{m:za}{f:Nat}{b:Bool}(hm:zN m)(hf:f<m.methods.length)(h:ju (jY m) m.methods.length f f=b)(h0:jA m b f≠0):Vf m f=false:=by
 have hl:=(qbf (cyc:=b) hm hf).1;unfold Vf;rw[h];unfold jA at h0 hl;cases b
 ·rfl
 ·rw[Xb rfl]at h0 hl;rw[Xg (by omega)];rfl
theorem qsr{w:World}{gi g i:Nat}{xs:List Value}{v:Value}(h:zq w w.heap.size (some ⟨gi,0,none⟩) xs)(hg:gi≠g):zq (w.setCell ⟨g,i,none⟩ v) (w.setCell ⟨g,i,none⟩ v).heap.size (some ⟨gi,0,none⟩) xs:=fun j u hu=>by
 obtain⟨ad,e,hb,hc⟩:=h j u hu;injection e with e;subst e;refine⟨_,rfl,by simpa using hb,?_⟩;exact(XX (w:=w) (Below.heap_setCell w ⟨g,i,none⟩ v _ (by rw[zu];exact hg))).trans hc
set_option maxHeartbeats 12800000 in
theorem qlq(m:za)(maps:List (List zo))(A:Option Addr)(c:Nat)(h:zi)(w:World)(H:zm w w.heap.size h m)(hs:Zt m=true)(hM:ze (zI jK 2) 1 w w.heap.size A c maps)(hz:kW 4000 maps):
  Calls Tryz.prog 27 #[zp h m,.slice A maps.length c] w (qce m maps w):=by
 obtain⟨i1,hi1,hy0,hy1,hy2⟩:=jU vT;have HW:=zH (vr (w:=w) (h:=h) (m:=m));have HBX:=zH (ql w h m);have HZ:Hid (w.heap.size<(w.alloc (zg h m)).heap.size):=zH (by simp);have HI:=zH (H.now HW.out);have HM0:=zH (kF RowAt.keeps hM HW.out);have HMZ:=zH hz;have hm:=q9d hs;have HM:=zH hm;have hl1:=hM.le;have hl2:=hM.cap;obtain⟨n,hn⟩:∃n,m.methods.length=n:=⟨_,rfl⟩
 have hn12:n≤12:=by have:=(qgb hs).1;omega
 have HN:=zH hn;have HGC:Hid (m.classes.length≤1000∧m.methods.length≤1000∧∀x ∈m.methods,x.code.length≤1048576):=zH ⟨by have:=hm.fits.cl;omega,by omega,fun x hx=>by have:=(hm.method hx).fits.cl;omega⟩;obtain⟨EL,hEL⟩:∃EL,jY m=EL:=⟨_,rfl⟩
 have HEQ:=zH hEL;have HELN:Hid (EL.length=n):=zH (by rw[←hEL,q5u];exact hn);have hrow:∀g:Nat,(EL[g]?.getD []).length≤12:=fun g=>by
  rw[←hEL];rcases Xk g m.methods.length with q|q
  ·rw[qdp q];have:=qc7 m (g:Int);show(jJ m (g:Int)).length≤12;omega
  ·rw[Xv (by rw[q5u];exact q)];exact Xp _
 have HED:Hid (kA EL n∧∀g:Nat,(EL[g]?.getD []).length≤12):=zH ⟨by rw[←hEL,←hn];exact qdo m,hrow⟩;have HRL:Hid (∀l ∈EL,l.length≤1048576):=zH (fun l hl=>by
  obtain⟨i,hi,rfl⟩:=List.mem_iff_getElem.mp hl;have:=hrow i;rw[Xc hi]at this;have:EL[i].length≤12:=this;omega)
 obtain⟨nm,hnm⟩:∃z,maps.length=z:=⟨_,rfl⟩
 have HMN:=zH hnm;rw[hnm]at hl1⊢
 clear H hM hz hs hn hEL hnm hrow hm;have HX:Hid (Below (w.alloc (zg h m)).heap.size (w.alloc (zg h m)) (w.alloc (zg h m))):=zH (zb _ _);go_enter Tryz.func27,Tryz.ntmps27;go_upto_region 1 with fail
 generalize w.alloc (zg h m)=w1 at*
 obtain⟨q0,q1,q2,q3,q4,q5,q6⟩:=HBX.out;go_upto_region 2 with(go_at_call 58;(with_reducible refine(qq2 HI HX HGC HN HEQ).mono ?_);rintro e w2 ⟨gE,rfl,hg1,hg2,hs,hb⟩;have HE2:=zH hs;have HX2:=zH hb;have HGE:=zH hg2;clear hg1 hg2 hs hb)
 clear HX q0 q1 q2 q3 q4 q5 q6;go_upto_region 3 with(at_make;refine wpList_make_full _ rfl _ _ 26 rfl w2.heap.size 3 i1 (.int .i64 0) 1 Tryz.underlying26 hi1 hy0 hy1 .i64 .i64 _ _ n rfl rfl rfl rfl (by rw[hy2];omega) (by unfold maxLen;omega) (zn _) ?_;intro w3 hown hgrow;have HO3:=zH hown;have HB3:=zH ((zb w2.heap.size w2).grown hgrow (zn _) (fun k hk=>by cases hk));clear hown hgrow)
 have HNI:Hid (qg w3 w2.heap.size (List.replicate n 0)):=zH (by
  have h1:=q2j HO3.out;rw[q1f (v:= .int .i64 0) rfl]at h1;unfold qg;rw[List.map_replicate];exact h1)
 obtain⟨gB,hgB⟩:∃z,w2.heap.size=z:=⟨_,rfl⟩
 have HGB:Hid (w2.heap.size≤gB):=zH (by rw[hgB];exact zn _);have HGB2:Hid (w1.heap.size≤gB):=zH (by rw[←hgB];exact HX2.out.size);have HGB3:Hid (gB<w3.heap.size):=zH (by rw[←hgB];exact zd.lt HNI.out);rw[hgB]at HNI;clear HO3;try simp only[hgB]
 clear hgB;have HE3:Hid (ze (zI zl 1) 1 w3 w3.heap.size (some ⟨gE,0,none⟩) n EL):=zH (kF (zI.keeps zl.keeps 1) HE2.out HB3.out);go_upto_region 4 with(go_at_call 59;(with_reducible refine(qnd HE3 HELN hn12 HRL).mono ?_);rintro e w4 ⟨Ap,cp,P,rfl,hr,hpa,hb⟩;have HR:=zH hr;have HPA:=zH hpa;have HB4:=zH (HB3.out.trans (hb.mono HB3.out.size));have HN4:=zH (HNI.out.keep hb);clear hr hpa hb)
 have hpl1:=HPA.out.le;have hpl2:=HPA.out.cap;have HDI:Hid (QP EL n (ZO m maps) P 0 (List.replicate n 0)):=zH QP.start;have hPl:P.length≤12:=by
  have h1:P.length≤P.flatten.length:=by
   have h2:∀Q:List (List Nat),(∀c ∈Q,c≠ [])→Q.length≤Q.flatten.length:=by
    intro Q
    induction Q with
    |nil=>intro _;exact zn _
    |cons c Q ih=>
     intro hq;have h3:=ih (fun c hc=>hq c (XF _ hc));have h4:=List.length_pos_iff.mpr (hq c (XD ..));rw[List.flatten_cons,Xe,XJ];omega
   exact h2 P (fun c hc=>(HR.out.srt c hc).1)
  have h2:P.flatten.length≤n:=q06 HR.out.nod HR.out.lt;omega
 generalize(List.replicate n (0:Int))=O0 at*
 clear HNI HE3;try simp only[HN.out]
 go_loopw [23] (fun i wr=>∃(k:Nat) (O:List Int),k≤P.length∧i= .int .i64 k∧Hid (QP EL n (ZO m maps) P k O)∧Hid (∀j,(hj:j<P.length)→j<k→∀g ∈P[j],Vf m g=false)∧Hid (qg wr gB O)∧Hid (QY wr w3.heap.size Ap cp P)∧Hid (Below w2.heap.size w2 wr)) (fun i _=>P.length - (intOf i).toNat)
 case atStart=>exact⟨0,O0,Xp _,rfl,HDI,zH (fun j _ hj=>by omega),HN4,HPA,HB4⟩
 case round=>
  clear HDI HN4 HPA HB4;obtain⟨i,O,hi,rfl,HDI,HBD,HNI,HPA,HV⟩:=hrel;by_cases hlt:i<P.length;rotate_left
  ·have hil:¬(i:Int)<(P.length:Int):=by omega
   have HDN:Hid (O=Qc m maps):=zH (by
    rw[HDI.out.done HR.out (by omega)];unfold Qc;rw[HEQ.out,HN.out])
   have HRB:Hid (jE m=true):=zH (by
    unfold jE;refine q15.mpr (fun f hf=> ?_);obtain⟨p,hp,hfp⟩:=List.mem_flatten.mp (HR.out.all f (by rw[HN.out]at hf;exact hf));obtain⟨j,hj,rfl⟩:=List.mem_iff_getElem.mp hp;rw[HBD.out j hj (by omega) f hfp];rfl)
   have HX:=zH (HX2.out.trans (HV.out.mono HX2.out.size));go_wp2_with fail
   refine Xl (v:= .tuple #[.slice (some ⟨gB,0,none⟩) n n,.int .i64 0]) (by simp[results,Tryz.results27,go_sem]) rfl ?_;exact⟨some ⟨gB,0,none⟩,n,n,0,rfl,HW.out.trans (HX.out.mono (Xh HZ.out)),fun e=>(by rw[HRB.out]at e;cases e),fun _=>⟨rfl,HN.out.symm,by rw[←HDN.out];exact HNI.out.slc HDI.out.len (by omega),fun ad e=>by injection e with e;subst e;exact Xd (Xh HZ.out) HGB2.out⟩⟩
  obtain⟨p,hp⟩:∃p,P[i]=p:=⟨_,rfl⟩
  have hpi:P[i]? =some p:=by rw[Xc hlt,hp]
  have HPI:=zH hpi;obtain⟨gP,gi,ci,rfl,hgP,hgP2,r0,hgi,hgi2,hci,hci2,hcells⟩:=HPA.out.row i p hpi;have HPL:Hid (zq wr wr.heap.size (some ⟨gi,0,none⟩) (zQ p)):=zH (qoa hgi2 hcells);have HGI:Hid (w3.heap.size≤gi):=zH hgi;have HCI:Hid (p.length≤ci∧ci≤9223372036854775807):=zH ⟨hci,hci2⟩;have hpn:∀g ∈p,g<n:=fun g hg=>HR.out.lt g (Qx hlt (by rw[hp];exact hg));have hps:p.Pairwise (· < ·):=by have:=(HR.out.srt _ (Xf hlt)).2;rwa [hp]at this
  have hpl:p.length≤12:=by
   have:p.length≤n:=q06 (hps.imp (fun {a b} q=>by omega)) hpn;omega
  have HP:Hid ((∀g ∈p,g<n)∧p.length≤12):=zH ⟨hpn,hpl⟩;have HPM:Hid ((∀g ∈p,g<m.methods.length)∧p.length≤12):=zH ⟨fun g hg=>by rw[HN.out];exact hpn g hg,hpl⟩;have HPS:=zH hps;obtain⟨np,hnp⟩:∃z,p.length=z:=⟨_,rfl⟩
  have HNP:=zH hnp;obtain⟨cyc,hcyc⟩:∃b,JK EL p=b:=⟨_,rfl⟩
  have HCY:=zH hcyc;have HWY:Hid (∀f ∈p,ju (jY m) m.methods.length f f=cyc):=zH (fun f hf=>by
   rw[HEQ.out,HN.out,←hcyc,←hp];exact qva HR.out hlt (by rw[hp];exact hf))
  have HSC:Hid (vp (kK m maps cyc) p=vp (ZO m maps) p):=zH (qim (fun g hg=>by unfold kK ZO;rw[qgw (HWY.out g hg)]));have HX:=zH (HX2.out.trans (HV.out.mono HX2.out.size));have HEr:Hid (ze (zI zl 1) 1 wr wr.heap.size (some ⟨gE,0,none⟩) n EL):=zH (kF (zI.keeps zl.keeps 1) HE2.out HV.out);have HXD:Hid (Below w1.heap.size w1 wr.drew):=zH HX.out.drew;have HVD:Hid (Below w2.heap.size w2 wr.drew):=zH HV.out.drew;have HED2:Hid (ze (zI zl 1) 1 wr.drew wr.drew.heap.size (some ⟨gE,0,none⟩) n EL):=zH (kF (zI.keeps zl.keeps 1) HE2.out HVD.out);have HPLD:Hid (zq wr.drew wr.drew.heap.size (some ⟨gi,0,none⟩) (zQ p)):=zH HPL.out;rw[hnp]at r0 hpl;clear hp hpi hgP hgP2 hgi hgi2 hci hci2 hcells hpn hps hnp hcyc;go_upto_region 6 with fail
  clear r0;go_region_held3 (fun w'=>w'.cell? ⟨w.heap.size,0,none⟩=some (.slice h.A0 m.classes.length h.c0)∧w'.cell? ⟨w.heap.size,1,none⟩=some (.slice h.A1 m.statics.length h.c1)∧w'.cell? ⟨w.heap.size,2,none⟩=some (.slice h.A2 m.ints.length h.c2)∧w'.cell? ⟨w.heap.size,3,none⟩=some (.slice h.A3 m.methods.length h.c3)∧w'.cell? ⟨w.heap.size,4,none⟩=some (.slice h.A4 m.entries.length h.c4)∧w'.cell? ⟨w.heap.size,5,none⟩=some (.int .i64 m.stack)∧w'.cell? ⟨w.heap.size,6,none⟩=some (.int .i64 m.heap)) (first|exact HBX.out.keep HXD.out HZ.out|exact HBX.out.keep HX5.out HZ.out|exact HBX.out.keep HX6.out HZ.out) (first
   |(go_at_call 61;(with_reducible refine(qj1 HED2 HELN hn12 HED HP HPLD HCI HNP HCY).mono ?_);rintro e w5 ⟨rfl,hb⟩;have HX5:=zH (HXD.out.trans (hb.mono HXD.out.size));have HV5:=zH (HVD.out.trans (hb.mono HVD.out.size));have HL5:Hid (zq w5 w5.heap.size (some ⟨gi,0,none⟩) (zQ p)):=zH ((HPLD.out.below hb).more hb.size);have HD5:=zH hb;clear hb)
   |(go_at_call 60;(with_reducible refine(qq5 HI HX5 HM (zH (kF RowAt.keeps HM0.out HX5.out)) HMZ HMN HL5 HPM HNP).mono ?_);rintro e w6 ⟨s6,ok6,rfl,hno,hyes,hb⟩;have HX6:=zH (HX5.out.trans (hb.mono HX5.out.size));have HV6:=zH (HV5.out.trans (hb.mono HV5.out.size));have HL6:Hid (zq w6 w6.heap.size (some ⟨gi,0,none⟩) (zQ p)):=zH ((HL5.out.below hb).more hb.size);have HD6:=zH (HD5.out.trans (hb.mono HD5.out.size));have HNO:=zH hno;have HYES:=zH hyes;clear hno hyes hb))
  rename_i hHeld;clear hHeld;have hi12:i<12:=by omega
  cases ok6
  ·have HRB:Hid (jE m=false):=zH (by
    obtain⟨g,hg,h0⟩:=HNO.out rfl;unfold jE;exact qny (HPM.out.1 g hg) (by rw[qqu (HWY.out g hg) h0];rfl))
   clear HNO HYES;go_wp2_with fail
   refine Xl (v:= .tuple #[.slice none 0 0,.int .i64 5]) (by simp[results,Tryz.results27,go_sem]) rfl ?_;exact⟨none,0,0,5,rfl,HW.out.trans (HX6.out.mono (Xh HZ.out)),fun _=>⟨rfl,rfl⟩,fun e=>by rw[HRB.out]at e;cases e⟩
  have HBD6:Hid (∀j,(hj:j<P.length)→j<i+1→∀g ∈P[j],Vf m g=false):=zH (fun j hj hji g hg=>by
   rcases Xk j i with q|q
   ·exact HBD.out j hj q g hg
   ·obtain rfl:j=i:=by omega
    have e:P[j]=p:=by have:=HPI.out;rw[Xc hj]at this;injection this
    rw[e]at hg;exact qkp HM.out (HPM.out.1 g hg) (HWY.out g hg) ((HYES.out rfl).1 g hg))
  have HS6:Hid (s6=vp (ZO m maps) p):=zH (by rw[(HYES.out rfl).2,HSC.out]);have HN6:Hid (qg w6 gB O):=zH ((show qg wr.drew gB O from HNI.out).keep HD6.out);have HPA6:Hid (QY w6 w3.heap.size (some ⟨gP,0,none⟩) cp P):=zH ((HPA.out.keep (w':=wr.drew) (zn _) (fun _ _ _=>rfl)).keep HD6.out.size (fun b _ hb=>HD6.out.block b hb));have HE6:Hid (ze (zI zl 1) 1 w6 w6.heap.size (some ⟨gE,0,none⟩) n EL):=zH (kF (zI.keeps zl.keeps 1) HE2.out HV6.out);have HOL:Hid (O.length=n∧∀t,0≤oN O t):=zH ⟨HDI.out.len,HDI.out.low⟩;obtain⟨r,hr⟩:∃z,(vh EL p (oN O) p).foldl mx 0=z:=⟨_,rfl⟩
  have HRR:=zH hr;have hrb:=qdj (M:=400000*(i:Int)) (by omega) (qap (EL:=EL) (p:=p) (c:=p) (fun t=>⟨HDI.out.low t,HDI.out.top t⟩));rw[hr]at hrb;obtain⟨hr0,hr1⟩:=hrb;have hsb:=q4e (C:=ZO m maps) (c:=p) (M:=32088) (by omega) (fun g=>⟨q6l HM.out g,qdt HM.out HMZ.out g⟩);rw[←HS6.out]at hsb;obtain⟨hs0,hs1⟩:=hsb;have hs2:s6≤385056:=by
   have:=HP.out.2;have:(p.length:Int)*32088≤12*32088:=Int.mul_le_mul_of_nonneg_right (by omega) (by omega);omega
  have hr2:r≤4800000:=by omega
  clear HNO HYES hr hr1 hs1 HNI HPA;go_upto_region 10 with(go_at_call 62;(with_reducible refine(qlr HE6 HELN hn12 HED HL6 HP HPS HNP HN6 HOL HRR).mono ?_);rintro e w7 ⟨rfl,hb⟩;have HV7:=zH (HV6.out.trans (hb.mono HV6.out.size));have HN7:=zH (HN6.out.keep hb);have HPA7:=zH (HPA6.out.keep hb.size (fun b _ hb'=>hb.block b hb'));have HL7:Hid (zq w7 w7.heap.size (some ⟨gi,0,none⟩) (zQ p)):=zH ((HL6.out.below hb).more hb.size);clear hb)
  have HST:Hid (QP EL n (ZO m maps) P (i+1) (ZM O p (s6+r))):=zH (by
   have e:P[i]=p:=by have:=HPI.out;rw[Xc hlt]at this;injection this
   have:=HDI.out.step (v:=s6+r) HR.out HED.out.1 hn12 (fun g=>⟨q6l HM.out g,qdt HM.out HMZ.out g⟩) hlt (by rw[e,HS6.out,HRR.out])
   rwa [e]at this)
  go_wp2_with fail
  go_loopw [47] (fun j wi=>∃k:Nat,k≤np∧j= .int .i64 k∧Hid (qg wi gB (ZM O (p.take k) (s6+r)))∧Hid (QY wi w3.heap.size (some ⟨gP,0,none⟩) cp P)∧Hid (zq wi wi.heap.size (some ⟨gi,0,none⟩) (zQ p))∧Hid (Below w2.heap.size w2 wi)) (fun j _=>np - (intOf j).toNat)
  case atStart=>exact⟨0,Xp _,rfl,HN7,HPA7,HL7,HV7⟩
  case round=>
   clear HN7 HPA7 HL7 HV7;obtain⟨k,hk,rfl,HNi,HPi,HLi,HVi⟩:=hrel;by_cases hkn:k<np
   ·have hkp:k<p.length:=by rw[HNP.out];exact hkn
    obtain⟨f,hf⟩:∃f,p[k]=f:=⟨_,rfl⟩
    have hfn:f<n:=by rw[←hf];exact HP.out.1 p[k] (Xf hkp)
    obtain⟨ar,e2,har,l0⟩:=HLi.out k (.int .i64 (f:Int)) (by unfold zQ;rw[XB,Xc hkp,hf];rfl);injection e2 with e2;subst e2;have l0:wr.cell? ⟨gi,k,none⟩=some (.int .i64 (f:Int)):=by rw[show Addr.add ⟨gi,0,none⟩ k=⟨gi,k,none⟩by unfold Addr.add;split<;>simp_all]at l0;exact l0
    have HY:Hid (qg (wr.setCell ⟨gB,f,none⟩ (.int .i64 (s6+r))) gB (ZM O (p.take (k+1)) (s6+r))):=zH (by
     rw[qhf hkp,hf];exact HNi.out.set (s6+r))
    have c0:=HNi.out.at_ (t:=f) (by rw[q9j,HOL.out.1];exact hfn);have f0:=zd.free HNi.out f;clear hf har hkp;go_wp2_with fail
    go_roundw;case rel=>exact⟨k+1,by omega,by go_num,HY,zH (qo7 HPi.out HGB3.out),zH (qsr HLi.out (by have:=HGI.out;have:=HGB3.out;omega)),zH (HVi.out.setCell (p:=⟨gB,f,none⟩) HGB.out _)⟩
    case measure=>simp[intOf];omega
   ·have hkl:¬(k:Int)<(np:Int):=by omega
    have HNf:Hid (qg wr gB (ZM O p (s6+r))):=zH (by have:=HNi.out;rwa [XK (by rw[HNP.out];omega)]at this);go_wp2_with fail
    go_roundw;case rel=>exact⟨i+1,_,by omega,by go_num,HST,HBD6,HNf,HPi,HVi⟩
    case measure=>simp[intOf];omega
def qcf(m:za)(l:List (List zo))(w:World)(e:Ending)(w':World):Prop:=∃s p er,e= .returned (.tuple #[.int .i64 s,.int .i64 p,.int .i64 er])∧Below w.heap.size w w'∧(jE m=false→er=5)∧(jE m=true→er=0∧s=YL m l∧p=YX m)
theorem qq6{m:za}{maps:List (List zo)}{A:Option Addr}{c n:Nat}{h:zi}{w0 w:World}(HI:Hid (zm w0 w0.heap.size h m))(HX:Hid (Below w0.heap.size w0 w))(HS:Hid (Zt m=true))(HT:Hid (jy m w A c maps))(HN:Hid (maps.length=n)):
  Calls Tryz.prog 27 #[zp h m,.slice A n c] w (qce m maps w):=by
 obtain rfl:=HN.out;exact qlq m maps A c h w (HI.out.now HX.out) HS.out HT.out.1 HT.out.z4
theorem qm5{m:za}(hm:zN m)(l:List (List zo))(t:Nat):0≤oN (Qc m l) t:=by
 unfold oN;rcases Xk t m.methods.length with q|q
 ·rw[qqp q];exact qqr (qdo m) (q6l hm) q
 ·rw[Xv (by rw[qaf];exact q)];exact XE _
theorem qe1{T L:List Int}{A B:Option Addr}{c cb n k:Nat}{w:World}{r:Int}(HT:Hid (ze zl 1 w w.heap.size A c T))(HN:Hid (T.length=n∧n≤12∧∀t,0≤oN T t))(HL:Hid (ze zl 1 w w.heap.size B cb L))(HK:Hid (L.length=k∧k≤12∧∀f ∈L,0≤f∧f<n))(HR:Hid (Jl T L=r)):
  Calls Tryz.prog 28 #[.slice A n c,.slice B k cb] w fun e w'=>e= .returned (.int .i64 r)∧Below w.heap.size w w':=by
 obtain⟨h1,h2,h3⟩:=HN.out;obtain⟨rfl,h4,h5⟩:=HK.out;have H:=qqz T L A B c cb n w HT.out h1 (by omega) HL.out (by omega) h5 h3;rw[HR.out]at H;exact H
theorem qu1{m:za}{h:zi}{n:Nat}{w0 w:World}(HI:Hid (zm w0 w0.heap.size h m))(HX:Hid (Below w0.heap.size w0 w))(HN:Hid (m.methods.length=n∧n≤12)):
  Calls Tryz.prog 29 #[zp h m] w fun e w'=>∃g,e= .returned (.slice (some ⟨g,0,none⟩) n n)∧ze zl 1 w' w'.heap.size (some ⟨g,0,none⟩) n (kM m)∧Below w.heap.size w w':=
 qqx m h n w (HI.out.now HX.out) HN.out.1 HN.out.2
set_option maxHeartbeats 6400000 in
theorem qai(m:za)(l:List (List zo))(A:Option Addr)(c:Nat)(h:zi)(w:World)(H:zm w w.heap.size h m)(hs:Zt m=true)(hT:jy m w A c l):
  Calls Tryz.prog 12 #[zp h m,.slice A l.length c] w (qcf m l w):=by
 have hsn:=qh9 hs;have hm:=q1y hsn;have hp:=qb9 hm m.entries;have hsl:=hm.fits.sl;have HS:=zH hs;have HW:=zH (vr (w:=w) (h:=h) (m:=m));have HBX:=zH (ql w h m);have HZ:Hid (w.heap.size<(w.alloc (zg h m)).heap.size):=zH (by simp);have HI:=zH (H.now HW.out);have HT:=zH (hT.now HW.out);obtain⟨nl,hnl⟩:∃z,l.length=z:=⟨_,rfl⟩
 rw[hnl];have HLN:=zH hnl;obtain⟨n,hn⟩:∃z,m.methods.length=z:=⟨_,rfl⟩
 have HMN:Hid (m.methods.length=n∧n≤12):=zH ⟨hn,by have:=hm.fits.ml;omega⟩;obtain⟨ne,hne⟩:∃z,m.entries.length=z:=⟨_,rfl⟩
 have HEN:Hid (m.entries.length=ne∧ne≤12∧∀f ∈m.entries,0≤f∧f<n):=zH ⟨hne,by have:=hm.fits.el;omega,fun f hf=>by have:=qa5 hsn hf;omega⟩;have HBN:Hid ((Qc m l).length=n∧n≤12∧∀t,0≤oN (Qc m l) t):=zH ⟨by rw[qaf,hn],HMN.out.2,qm5 hm l⟩;have HPN:Hid ((kM m).length=n∧n≤12∧∀t,0≤oN (kM m) t):=zH ⟨by rw[qcz,hn],HMN.out.2,qs4 hm⟩;have HS1:Hid (Jl (Qc m l) m.entries=YL m l):=zH rfl;obtain⟨pv,hpv⟩:∃z,jb m m.entries=z:=⟨_,rfl⟩
 have HS2:Hid (Jl (kM m) m.entries=pv):=zH (by rw[qo2 m _ (fun f hf=>(qa5 hsn hf).1),hpv]);have HHN:Hid (YX m=(m.statics.length:Int)+pv):=zH (by unfold YX;rw[hpv]);obtain⟨sv,hsv⟩:∃z,YL m l=z:=⟨_,rfl⟩
 have HSV:=zH hsv;rw[hsv]at HS1;rw[hpv]at hp;have hw1:IntKind.i64.wrap ((m.statics.length:Int)+pv)=(m.statics.length:Int)+pv:=IntWalk.i64_in _ (by omega);clear H hs hT hsn hnl hm hn hne hpv hsv hsl hp;go_enter Tryz.func12,Tryz.ntmps12;go_upto_region 1 with fail
 generalize w.alloc (zg h m)=w1 at*
 obtain⟨q0,q1,q2,q3,q4,q5,q6⟩:=HBX.out;have HX0:Hid (Below w1.heap.size w1 w1):=zH (zb _ _);go_upto_region 2 with(go_at_call 27;(with_reducible refine(qq6 HI HX0 HS HT HLN).mono ?_);rintro e w6 ⟨Ab6,nb6,cb6,er,rfl,hb,hno,hyes⟩;have HX6:=zH hb;have HNO:=zH hno;have HYES:=zH hyes;clear hb hno hyes)
 clear q0 q1 q2 q3 q4 q5 q6;by_cases hrb:jE m=true;rotate_left
 ·have hrb:jE m=false:=by simpa using hrb
  obtain⟨rfl,_⟩:=HNO.out hrb;have HRB:=zH hrb;clear hrb;go_wp2_with fail
  refine Xl (v:= .tuple #[.int .i64 0,.int .i64 0,.int .i64 5]) (by simp[results,Tryz.results12,go_sem]) rfl ?_;exact⟨0,0,5,rfl,HW.out.trans (HX6.out.mono (Xh HZ.out)),fun _=>rfl,fun e=>by rw[HRB.out]at e;cases e⟩
 obtain⟨rfl,hnb,hsb,_⟩:=HYES.out hrb;have HRB:=zH hrb;have HSB:=zH hsb;have hnb2:nb6=n:=hnb.trans HMN.out.1;clear hsb HYES HNO hrb hnb;subst hnb2;go_upto_region 4 with fail
 have HXS:Hid (Below w6.heap.size w6 w6.drew):=zH (zb _ _).drew;have HSB:=zH (HSB.out.keep' zl.keeps HXS.out.size (fun _ hq=>HXS.out.cell hq));have HXD:=zH HX6.out.drew;have HEI:Hid (∀W,Below w1.heap.size w1 W→ze zl 1 W W.heap.size h.A4 h.c4 m.entries):=zH (fun W hW=>(HI.out.now hW).entries);have HKS:Hid (∀W,Below w1.heap.size w1 W→(fun w':World=>w'.cell? ⟨w.heap.size,0,none⟩=some (.slice h.A0 m.classes.length h.c0)∧w'.cell? ⟨w.heap.size,1,none⟩=some (.slice h.A1 m.statics.length h.c1)∧w'.cell? ⟨w.heap.size,2,none⟩=some (.slice h.A2 m.ints.length h.c2)∧w'.cell? ⟨w.heap.size,3,none⟩=some (.slice h.A3 m.methods.length h.c3)∧w'.cell? ⟨w.heap.size,4,none⟩=some (.slice h.A4 m.entries.length h.c4)∧w'.cell? ⟨w.heap.size,5,none⟩=some (.int .i64 m.stack)∧w'.cell? ⟨w.heap.size,6,none⟩=some (.int .i64 m.heap)) W):=zH (fun W hW=>HBX.out.keep hW HZ.out);obtain⟨ne',hne'⟩:∃z,m.entries.length=z:=⟨_,rfl⟩
 have HEK:=zH (hne'.symm.trans HEN.out.1);refine wp_region_noPanic ?_;refine wp_region_held_drew (S:=(fun w':World=>w'.cell? ⟨w.heap.size,0,none⟩=some (.slice h.A0 m.classes.length h.c0)∧w'.cell? ⟨w.heap.size,1,none⟩=some (.slice h.A1 m.statics.length h.c1)∧w'.cell? ⟨w.heap.size,2,none⟩=some (.slice h.A2 m.ints.length h.c2)∧w'.cell? ⟨w.heap.size,3,none⟩=some (.slice h.A3 m.methods.length h.c3)∧w'.cell? ⟨w.heap.size,4,none⟩=some (.slice h.A4 m.entries.length h.c4)∧w'.cell? ⟨w.heap.size,5,none⟩=some (.int .i64 m.stack)∧w'.cell? ⟨w.heap.size,6,none⟩=some (.int .i64 m.heap))) (by kernel_rfl) (HKS.out _ HXD.out) (fun hHeld=> ?_);clear hne';generalize w6.drew=wd at HXS HXD HSB hHeld⊢
 refine mT 0 (h:=mT 1 (h:=mT 2 (h:=mT 4 (h:=mT 5 (h:=mT 6 (h:=mT 7 (h:=mT 9 (h:=mT 10 (h:= ?_)))))))));refine wpAnyH_ready (rs:=[3]) (by kernel_rfl) (by simp) ?_;refine AllReadyH.cons (o:=_) rfl (fun K hK=> ?_) AllReadyH.nil;go_simp;(go_at_call 28;(refine(qe1 HSB HBN (zH (HEI.out _ HXD.out)) (zH ⟨rfl,HEN.out.1 ▸ HEN.out.2.1,HEN.out.2.2⟩) HS1).mono ?_);rintro e w7 ⟨rfl,hb⟩;replace HXD:=zj HXD hb;clear hb)
 refine hK.out _ _ (HKS.out _ HXD.out) (fun hHeld=> ?_);clear hK K;try simp only[sA,sB,sC,Act.put,sD,sE,sF]
 refine wpAnyH_ready (rs:=[8]) (by kernel_rfl) (by simp) ?_;refine AllReadyH.cons (o:=_) rfl (fun K hK=> ?_) AllReadyH.nil;go_simp;(go_at_call 29;(refine(qu1 HI HXD HMN).mono ?_);rintro e w8 ⟨g8,rfl,hs8,hb⟩;replace HXD:=zj HXD hb;have HS8:=zH hs8;clear hb hs8)
 refine hK.out _ _ (HKS.out _ HXD.out) (fun hHeld=> ?_);clear hK K;try simp only[sA,sB,sC,Act.put,sD,sE,sF]
 refine wpAnyH_ready (rs:=[11]) (by kernel_rfl) (by simp) ?_;refine AllReadyH.cons (o:=_) rfl (fun K hK=> ?_) AllReadyH.nil;go_simp;(go_at_call 28;(refine(qe1 HS8 HPN (zH (HEI.out _ HXD.out)) (zH ⟨rfl,HEN.out.1 ▸ HEN.out.2.1,HEN.out.2.2⟩) HS2).mono ?_);rintro e w9 ⟨rfl,hb⟩;replace HXD:=zj HXD hb;clear hb)
 refine hK.out _ _ (HKS.out _ HXD.out) (fun hHeld=> ?_);clear hK K;try simp only[sA,sB,sC,Act.put,sD,sE,sF]
 refine mT 12 (h:=mT 13 (h:=mT 14 (h:=mT 15 (h:= ?_))));refine wpAnyH_done (by kernel_rfl) ?_ _;refine NoPanic.normal ?_;go_wp2_with fail
 refine Xl (v:= .tuple #[.int .i64 sv,.int .i64 ((m.statics.length:Int)+pv),.int .i64 0]) (by simp[results,Tryz.results12,go_sem]) rfl ?_;exact⟨_,_,0,rfl,HW.out.trans (HXD.out.mono (Xh HZ.out)),fun e=>(by rw[HRB.out]at e;cases e),fun _=>⟨rfl,HSV.out.symm,HHN.out.symm⟩⟩
abbrev qJ(m:za)(s h:Int):za:=⟨m.classes,m.statics,m.ints,m.methods,m.entries,s,h⟩
section
variable{m:za}{s h:Int}
theorem q86(c:Int)(ab:List Int):∀(k:Nat) (l:List Int),kt (qJ m s h) c ab k l=kt m c ab k l
 |_,[]=>rfl
 |k,t::l=>by
  show(kZ (qJ m s h) c ab k t&& kt (qJ m s h) c ab (k+1) l)=_;rw[q86 c ab (k+1) l];rfl
theorem qql(c:Int)(y:zJ):kV (qJ m s h) c y=kV m c y:=by
 unfold kV;rw[q86];rfl
theorem qtq(n:Nat):Jd (qJ m s h) n=Jd m n:=by
 unfold Jd;congr 1;funext i;show(match m.classes[i]? with|some x=>kV (qJ m s h) (i:Int) x|none=>true)=(match m.classes[i]? with|some x=>kV m (i:Int) x|none=>true)
 cases m.classes[i]? with
 |none=>rfl
 |some x=>exact qql _ _
theorem okB_sh:okB (qJ m s h)=okB m:=by
 unfold okB;have h1:Jd (qJ m s h) (qJ m s h).classes.length=Jd m m.classes.length:=qtq _;rw[h1];rfl
theorem qt9(h0:zP s 0 4096=zP m.stack 0 4096)(h1:zP h 0 4096=zP m.heap 0 4096):zK (qJ m s h)=zK m:=by
 unfold zK Ze qJ;dsimp only;rw[h0,h1]
theorem VA{a b:Int}(h0:0≤a∧a≤4096)(h1:0≤b∧b≤4096):zP a 0 4096=zP b 0 4096:=by rw[Qb.mpr h0,Qb.mpr h1]
theorem qrx(h0:zP s 0 4096=zP m.stack 0 4096)(h1:zP h 0 4096=zP m.heap 0 4096):qR (qJ m s h)=qR m:=by
 unfold qR;rw[qt9 h0 h1,okB_sh]
theorem qdi{f:Int}{S:List zo}(H:Jh m f S):Jh (qJ m s h) f S:=⟨⟨H.grow.len,H.grow.first,H.grow.small⟩,H.done⟩
theorem qsu{f:Int}{S:List zo}(H:ZQ m f S):ZQ (qJ m s h) f S:=⟨H.right,H.least,H.small,H.flat⟩
end
theorem qjp(m:za)(l:List (List zo))(A:Option Addr)(c:Nat)(h:zi)(w:World)(H:zm w w.heap.size h m)(hs:Zt m=true)(hT:jy m w A c l):
  Calls Tryz.prog 23 #[zp h m,.slice A l.length c] w fun e w'=>e= .returned (.tuple #[.int .i64 (if 0≤jF m l then jF m l else 0),.int .i64 (if 0≤jF m l then 6 else 0)])∧Below w.heap.size w w':=qjo m l A c h w H (q9d hs) hT
end Go.Proofs.YtcmiljnbmgkdnaaGreat
