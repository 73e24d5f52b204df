import Derived.Test.YtcmiljnbmgkdnaaGreatFB04
namespace Go.Proofs.YtcmiljnbmgkdnaaGreat
set_option maxRecDepth 100000
set_option linter.unusedVariables false
set_option linter.unusedSimpArgs false
open Go.ChangeShapes Go.WideShapes Go.ChangeAt Go.RowKit
theorem q26{P:Prop}(h:P:=by
 refine wpAnyH_ready (rs:=[9]) (by kernel_rfl) (by simp) ?_;refine AllReadyH.cons (o:=_) rfl (fun K hK=> ?_) AllReadyH.nil;go_simp;(go_at_call 94;(with_reducible refine(qur HFS HFP HRS).mono ?_);rintro e w6 ⟨rfl,hb⟩;replace HX:=zH (HX.out.trans (hb.mono (Xh HW.out.lt)));replace HW:=zH (HW.out.keep hb HW.out.lt);have q0:=HW.out.cells 0 _ rfl;have q1:=HW.out.cells 1 _ rfl;have f0:=HW.out.free 0;have f1:=HW.out.free 1;clear hb)
 refine hK.out _ _ (HKS.out _ HX.out) (fun hHeld=> ?_);clear hK K;try simp only[sA,sB,sC,Act.put,sD,sE,sF]
 refine wpAnyH_ready (rs:=[10]) (by kernel_rfl) (by simp) ?_;refine AllReadyH.cons (o:=_) rfl (fun K hK=> ?_) AllReadyH.nil;go_simp;refine hK.out _ _ (HKS.out _ ((HX.out.setCell (p:=⟨w.heap.size+1,0,none⟩) (zn _) _).setCell (p:=⟨w.heap.size+1,1,none⟩) (zn _) _)) (fun hHeld=> ?_);clear hK K;try simp only[sA,sB,sC,Act.put,sD,sE,sF]
 refine wpAnyH_done (by kernel_rfl) ?_ _;refine NoPanic.normal ?_;have HW2:=zH (qol HW.out (r:=rs));have HX2:=zH ((HX.out.setCell (p:=⟨w.heap.size+1,0,none⟩) (zn _) (.int .i64 (rs.getD 0))).setCell (p:=⟨w.heap.size+1,1,none⟩) (zn _) (.bool rs.isNone));go_wp2_with fail
 go_roundw;case rel=>exact⟨k+1,by omega,by go_num,HPS.out ▸ HW2,HX2⟩
 case measure=>simp[intOf];omega):P:=h
set_option maxHeartbeats 6400000 in
theorem qk8(q:Inq)(L:List Int)(A B:Option Addr)(c d:Nat)(w:World)(hq:ze zl 1 w w.heap.size A c q.1)(hl:ze zl 1 w w.heap.size B d L):
  Calls Tryz.prog 52 #[inqV q A c,.slice B L.length d] w (q1u (ZN q L) w):=by
 show Calls Tryz.prog 52 #[.agg #[.slice A q.1.length c,.int .i64 q.2],.slice B L.length d] w (q1u (ZN q L) w);have HL:=zH hq;have HM:=zH hl;have hc1:=hq.le;have hc2:=hq.cap;have hd1:=hl.le;have hd2:=hl.cap;clear hq hl;by_cases hn:q.1.length=L.length;rotate_left
 ·have hi:((L.length:Int) !=(q.1.length:Int))=true:=by simp;omega
  have HR:Hid (ZN q L=none):=zH (by unfold ZN;rw[Xa hn]);clear hn;go_enter Tryz.func52,Tryz.ntmps52;go_wp2_with fail
  go_ret2
  unfold q1u;rw[HR.out];exact⟨rfl,(zb w.heap.size w).alloc (zn _) _⟩
 obtain⟨n,hnn⟩:∃n,q.1.length=n:=⟨_,rfl⟩
 have HLN:Hid (q.1.length=n):=zH hnn;have HMN:Hid (L.length=n):=zH (by omega);have HR:Hid (ZN q L=(Vr q.1 L).map (fun n=>decide (n≤q.2))):=zH (by unfold ZN;rw[Xb hn]);obtain⟨R,hR⟩:∃R,ZN q L=R:=⟨_,rfl⟩
 rw[hR]at HR;rw[hR,show L.length=n by omega,hnn];rw[show L.length=n by omega]at hd1;rw[hnn]at hc1;have hi:((n:Int) !=(n:Int))=false:=by simp
 clear hn hnn hR;go_enter Tryz.func52,Tryz.ntmps52;go_upto_region 4 with fail
 have HXA:Hid (Below w.heap.size w ((w.alloc (.cells #[.slice A n c,.int .i64 q.2] 101)).alloc (.cells #[.int .i64 0,.bool false] 150))):=zH (((zb w.heap.size w).alloc (zn _) _).alloc (by simp) _);have HWA:Hid (zd ((w.alloc (.cells #[.slice A n c,.int .i64 q.2] 101)).alloc (.cells #[.int .i64 0,.bool false] 150)) w.heap.size [.slice A n c,.int .i64 q.2] 101):=zH ((zd.new w [.slice A n c,.int .i64 q.2] 101).keep ((zb (w.heap.size+1) _).alloc (by simp) _) (Nat.lt_succ_self _));have HWS:Hid (zd ((w.alloc (.cells #[.slice A n c,.int .i64 q.2] 101)).alloc (.cells #[.int .i64 0,.bool false] 150)) (w.heap.size+1) (numC (ZR q.1 L 0)) 150):=zH (zd.at_ (by simp) [.int .i64 0,.bool false] 150);generalize(w.alloc (.cells #[.slice A n c,.int .i64 q.2] 101)).alloc (.cells #[.int .i64 0,.bool false] 150)=w1 at*
 have a0:=HWA.out.cells 0 _ rfl;go_wp2_with fail
 go_loopw [18] (fun i wr=>∃k:Nat,k≤n∧i= .int .i64 k∧Hid (zd wr (w.heap.size+1) (numC (ZR q.1 L k)) 150)∧Hid (Below (w.heap.size+1) w1 wr)) (fun i _=>n - (intOf i).toNat)
 case atStart=>exact⟨0,Xp _,rfl,HWS,zH (zb _ _)⟩
 case round=>
  clear HWS;obtain⟨k,hk,rfl,HW,HX⟩:=hrel;by_cases hkn:k<n
  ·have hkL:k<q.1.length:=by rw[HLN.out];exact hkn
   have hkM:k<L.length:=by rw[HMN.out];exact hkn
   obtain⟨ad,rfl,hab,s0⟩:=HL.out.row.at_ hkL;obtain⟨ad',rfl,hab',t0⟩:=HM.out.row.at_ hkM;replace s0:w.cell? (ad.add k)=some (.int .i64 q.1[k]):=by have:=s0;rw[Xz]at this;exact this
   replace t0:w.cell? (ad'.add k)=some (.int .i64 L[k]):=by have:=t0;rw[Xz]at this;exact this
   obtain⟨x,hx⟩:∃x,q.1[k]=x:=⟨_,rfl⟩
   obtain⟨y,hy⟩:∃x,L[k]=x:=⟨_,rfl⟩
   have HPS:Hid (ZR q.1 L (k+1)=QO (ZR q.1 L k) (ZF (ofO x) (ofO y))):=zH (qjt (by rw[←hx];exact Xc hkL) (by rw[←hy];exact Xc hkM));have HFS:Hid (vn (ZR q.1 L k)):=zH (qju _ _ _);rw[hx]at s0;rw[hy]at t0;have HB1:Hid (∀W,Below (w.heap.size+1) w1 W→Below w.heap.size w W):=zH (fun W hW=>HXA.out.trans (hW.mono (by omega)));have HKS:Hid (∀W,Below (w.heap.size+1) w1 W→(fun w'=>w'.cell? (ad'.add k)=some (.int .i64 y)) W):=zH (fun W hW=>((HB1.out W hW).cell (p:=ad'.add k) (by rw[zu];exact hab')).trans t0);have s1:=((HB1.out _ HX.out).cell (p:=ad.add k) (by rw[zu];exact hab)).trans s0;obtain⟨rx,hrx⟩:∃r,ofO x=r:=⟨_,rfl⟩
   obtain⟨ry,hry⟩:∃r,ofO y=r:=⟨_,rfl⟩
   have HRX:=zH hrx;have HRY:=zH hry;have HFX:Hid (vn rx):=zH (hrx ▸ q3e x);have HFY:Hid (vn ry):=zH (hry ▸ q3e y);rw[hrx,hry]at HPS;obtain⟨rp,hrp⟩:∃r,ZF rx ry=r:=⟨_,rfl⟩
   have HRP:=zH hrp;have HFP:Hid (vn rp):=zH (hrp ▸ qbk _ _);rw[hrp]at HPS;generalize ZR q.1 L k=s at*
   obtain⟨rs,hrs⟩:∃r,QO s rp=r:=⟨_,rfl⟩
   have HRS:=zH hrs;rw[hrs]at HPS;clear hx hy t0 s0 hrx hry hrp hrs;go_upto_region 7 with fail
   clear s1;refine wp_region_noPanic ?_;refine wp_region_held_drew (S:=fun w'=>w'.cell? (ad'.add k)=some (.int .i64 y)) (by kernel_rfl) (HKS.out _ HX.out.drew) (fun hHeld=> ?_);replace HX:=zH HX.out.drew;replace HW:=zH (HW.out.drew');generalize wr.drew=wd at*
   have q0:=HW.out.cells 0 _ rfl;have q1:=HW.out.cells 1 _ rfl;have f0:=HW.out.free 0;have f1:=HW.out.free 1;refine mT 1 (h:=mT 3 (h:=mT 4 (h:=mT 5 (h:=mT 6 (h:= ?_)))));refine wpAnyH_ready (rs:=[0,2]) (by kernel_rfl) (by simp) ?_;refine(AllReadyH.cons (o:=_) rfl (fun K hK=> ?_) (AllReadyH.cons (o:=_) rfl (fun K hK=> ?_) AllReadyH.nil))
   ·go_simp;refine hK.out _ _ hHeld (fun hHeld=> ?_);clear hK K;try simp only[sA,sB,sC,Act.put,sD,sE,sF]
    refine wpAnyH_ready (rs:=[2]) (by kernel_rfl) (by simp) ?_;refine AllReadyH.cons (o:=_) rfl (fun K hK=> ?_) AllReadyH.nil;go_simp;(go_at_call 95;(with_reducible refine(Yo HRX).mono ?_);rintro e w6 ⟨rfl,hb⟩;replace HX:=zH (HX.out.trans (hb.mono (Xh HW.out.lt)));replace HW:=zH (HW.out.keep hb HW.out.lt);have q0:=HW.out.cells 0 _ rfl;have q1:=HW.out.cells 1 _ rfl;have f0:=HW.out.free 0;have f1:=HW.out.free 1;clear hb)
    refine hK.out _ _ (HKS.out _ HX.out) (fun hHeld=> ?_);clear hK K;try simp only[sA,sB,sC,Act.put,sD,sE,sF]
    refine wpAnyH_ready (rs:=[7]) (by kernel_rfl) (by simp) ?_;refine AllReadyH.cons (o:=_) rfl (fun K hK=> ?_) AllReadyH.nil;go_simp;(go_at_call 95;(with_reducible refine(Yo HRY).mono ?_);rintro e w6 ⟨rfl,hb⟩;replace HX:=zH (HX.out.trans (hb.mono (Xh HW.out.lt)));replace HW:=zH (HW.out.keep hb HW.out.lt);have q0:=HW.out.cells 0 _ rfl;have q1:=HW.out.cells 1 _ rfl;have f0:=HW.out.free 0;have f1:=HW.out.free 1;clear hb)
    refine hK.out _ _ (HKS.out _ HX.out) (fun hHeld=> ?_);clear hK K;try simp only[sA,sB,sC,Act.put,sD,sE,sF]
    refine wpAnyH_ready (rs:=[8]) (by kernel_rfl) (by simp) ?_;refine AllReadyH.cons (o:=_) rfl (fun K hK=> ?_) AllReadyH.nil;go_simp;(go_at_call 96;(with_reducible refine(q39 HFX HFY HRP).mono ?_);rintro e w6 ⟨rfl,hb⟩;replace HX:=zH (HX.out.trans (hb.mono (Xh HW.out.lt)));replace HW:=zH (HW.out.keep hb HW.out.lt);have q0:=HW.out.cells 0 _ rfl;have q1:=HW.out.cells 1 _ rfl;have f0:=HW.out.free 0;have f1:=HW.out.free 1;clear hb)
    refine hK.out _ _ (HKS.out _ HX.out) (fun hHeld=> ?_);clear hK K;try simp only[sA,sB,sC,Act.put,sD,sE,sF]
    exact q26
   ·go_simp;(go_at_call 95;(with_reducible refine(Yo HRX).mono ?_);rintro e w6 ⟨rfl,hb⟩;replace HX:=zH (HX.out.trans (hb.mono (Xh HW.out.lt)));replace HW:=zH (HW.out.keep hb HW.out.lt);have q0:=HW.out.cells 0 _ rfl;have q1:=HW.out.cells 1 _ rfl;have f0:=HW.out.free 0;have f1:=HW.out.free 1;clear hb)
    refine hK.out _ _ (HKS.out _ HX.out) (fun hHeld=> ?_);clear hK K;try simp only[sA,sB,sC,Act.put,sD,sE,sF]
    refine wpAnyH_ready (rs:=[0,7]) (by kernel_rfl) (by simp) ?_;refine(AllReadyH.cons (o:=_) rfl (fun K hK=> ?_) (AllReadyH.cons (o:=_) rfl (fun K hK=> ?_) AllReadyH.nil))
    ·go_simp;refine hK.out _ _ hHeld (fun hHeld=> ?_);clear hK K;try simp only[sA,sB,sC,Act.put,sD,sE,sF]
     refine wpAnyH_ready (rs:=[7]) (by kernel_rfl) (by simp) ?_;refine AllReadyH.cons (o:=_) rfl (fun K hK=> ?_) AllReadyH.nil;go_simp;(go_at_call 95;(with_reducible refine(Yo HRY).mono ?_);rintro e w6 ⟨rfl,hb⟩;replace HX:=zH (HX.out.trans (hb.mono (Xh HW.out.lt)));replace HW:=zH (HW.out.keep hb HW.out.lt);have q0:=HW.out.cells 0 _ rfl;have q1:=HW.out.cells 1 _ rfl;have f0:=HW.out.free 0;have f1:=HW.out.free 1;clear hb)
     refine hK.out _ _ (HKS.out _ HX.out) (fun hHeld=> ?_);clear hK K;try simp only[sA,sB,sC,Act.put,sD,sE,sF]
     refine wpAnyH_ready (rs:=[8]) (by kernel_rfl) (by simp) ?_;refine AllReadyH.cons (o:=_) rfl (fun K hK=> ?_) AllReadyH.nil;go_simp;(go_at_call 96;(with_reducible refine(q39 HFX HFY HRP).mono ?_);rintro e w6 ⟨rfl,hb⟩;replace HX:=zH (HX.out.trans (hb.mono (Xh HW.out.lt)));replace HW:=zH (HW.out.keep hb HW.out.lt);have q0:=HW.out.cells 0 _ rfl;have q1:=HW.out.cells 1 _ rfl;have f0:=HW.out.free 0;have f1:=HW.out.free 1;clear hb)
     refine hK.out _ _ (HKS.out _ HX.out) (fun hHeld=> ?_);clear hK K;try simp only[sA,sB,sC,Act.put,sD,sE,sF]
     exact q26
    ·go_simp;(go_at_call 95;(with_reducible refine(Yo HRY).mono ?_);rintro e w6 ⟨rfl,hb⟩;replace HX:=zH (HX.out.trans (hb.mono (Xh HW.out.lt)));replace HW:=zH (HW.out.keep hb HW.out.lt);have q0:=HW.out.cells 0 _ rfl;have q1:=HW.out.cells 1 _ rfl;have f0:=HW.out.free 0;have f1:=HW.out.free 1;clear hb)
     refine hK.out _ _ (HKS.out _ HX.out) (fun hHeld=> ?_);clear hK K;try simp only[sA,sB,sC,Act.put,sD,sE,sF]
     refine wpAnyH_ready (rs:=[0,8]) (by kernel_rfl) (by simp) ?_;refine(AllReadyH.cons (o:=_) rfl (fun K hK=> ?_) (AllReadyH.cons (o:=_) rfl (fun K hK=> ?_) AllReadyH.nil))
     ·go_simp;refine hK.out _ _ hHeld (fun hHeld=> ?_);clear hK K;try simp only[sA,sB,sC,Act.put,sD,sE,sF]
      refine wpAnyH_ready (rs:=[8]) (by kernel_rfl) (by simp) ?_;refine AllReadyH.cons (o:=_) rfl (fun K hK=> ?_) AllReadyH.nil;go_simp;(go_at_call 96;(with_reducible refine(q39 HFX HFY HRP).mono ?_);rintro e w6 ⟨rfl,hb⟩;replace HX:=zH (HX.out.trans (hb.mono (Xh HW.out.lt)));replace HW:=zH (HW.out.keep hb HW.out.lt);have q0:=HW.out.cells 0 _ rfl;have q1:=HW.out.cells 1 _ rfl;have f0:=HW.out.free 0;have f1:=HW.out.free 1;clear hb)
      refine hK.out _ _ (HKS.out _ HX.out) (fun hHeld=> ?_);clear hK K;try simp only[sA,sB,sC,Act.put,sD,sE,sF]
      exact q26
     ·go_simp;(go_at_call 96;(with_reducible refine(q39 HFX HFY HRP).mono ?_);rintro e w6 ⟨rfl,hb⟩;replace HX:=zH (HX.out.trans (hb.mono (Xh HW.out.lt)));replace HW:=zH (HW.out.keep hb HW.out.lt);have q0:=HW.out.cells 0 _ rfl;have q1:=HW.out.cells 1 _ rfl;have f0:=HW.out.free 0;have f1:=HW.out.free 1;clear hb)
      refine hK.out _ _ (HKS.out _ HX.out) (fun hHeld=> ?_);clear hK K;try simp only[sA,sB,sC,Act.put,sD,sE,sF]
      refine wpAnyH_ready (rs:=[0]) (by kernel_rfl) (by simp) ?_;refine AllReadyH.cons (o:=_) rfl (fun K hK=> ?_) AllReadyH.nil;go_simp;refine hK.out _ _ hHeld (fun hHeld=> ?_);clear hK K;try simp only[sA,sB,sC,Act.put,sD,sE,sF]
      exact q26
  ·have hki:¬(k:Int)<(n:Int):=by omega
   have HD:Hid (ZR q.1 L k=Vr q.1 L):=zH (qob (by rw[List.length_zip,HLN.out,HMN.out];omega));have hz:=HW.out;rw[HD.out]at hz;have HB:Hid (Below w.heap.size w wr):=zH (HXA.out.trans (HX.out.mono (by omega)));have HWB:Hid (zd wr w.heap.size [.slice A n c,.int .i64 q.2] 101):=zH (HWA.out.keep HX.out (Nat.lt_succ_self _));have a1:=HWB.out.cells 1 _ rfl;cases hd:Vr q.1 L with
   |none=>
    rw[hd]at hz HR;have HN:Hid (R=none):=zH HR.out;have z0:=hz.cells 0 _ rfl;have z1:wr.cell? ⟨w.heap.size+1,1,none⟩=some (.bool true):=hz.cells 1 _ rfl;clear hd;go_wp2_with fail
    go_ret2
    unfold q1u;rw[HN.out];exact⟨rfl,HB.out⟩
   |some u=>
    rw[hd]at hz HR;have HN:Hid (R=some (decide (u≤q.2))):=zH HR.out;have z0:wr.cell? ⟨w.heap.size+1,0,none⟩=some (.int .i64 u):=hz.cells 0 _ rfl;have z1:wr.cell? ⟨w.heap.size+1,1,none⟩=some (.bool false):=hz.cells 1 _ rfl;clear hd hz;go_wp2_with fail
    go_ret2
    unfold q1u;rw[HN.out];exact⟨rfl,HB.out⟩
end Go.Proofs.YtcmiljnbmgkdnaaGreat
