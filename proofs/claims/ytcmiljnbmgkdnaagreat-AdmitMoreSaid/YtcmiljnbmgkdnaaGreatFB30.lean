import Derived.Test.YtcmiljnbmgkdnaaGreatFB23
namespace Go.Proofs.YtcmiljnbmgkdnaaGreat
set_option maxRecDepth 100000
set_option linter.unusedVariables false
set_option linter.unusedSimpArgs false
open Go.ChangeShapes Go.WideShapes Go.ChangeAt Go.RowKit
theorem q27{l m:List (Int×Int)}{A A':Option Addr}{cap cap' n n':Nat}{w0 w:World}{r:Bool}(HL:Hid (ze zc 2 w0 w0.heap.size A cap l))(HM:Hid (ze zc 2 w0 w0.heap.size A' cap' m))(HX:Hid (Below w0.heap.size w0 w))(HN:Hid (l.length=n))(HN':Hid (m.length=n'))(HR:Hid (decide (l=m)=r)):
  Calls Tryz.prog 168 #[.slice A n cap,.slice A' n' cap'] w fun e w'=>e= .returned (.bool r)∧Below w.heap.size w w':=by
 obtain rfl:=HN.out;obtain rfl:=HN'.out;have h:=qi4 l m A A' cap cap' w0.heap.size w HX.out.size (HL.out.below_to zc.keeps HX.out (zn _)) (HM.out.below_to zc.keeps HX.out (zn _));rw[HR.out]at h;exact h
def QG(x y:zh):Bool:=decide (x.args.drop 1=y.args.drop 1)&& decide (x.ret=y.ret)
theorem qfz{P:Prop}(h:P:=by
 refine mT 0 (h:=mT 1 (h:=mT 2 (h:=mT 3 (h:=mT 4 (h:=mT 5 (h:= ?_))))));refine wpAnyH_ready (rs:=[6]) (by kernel_rfl) (by simp) ?_;refine AllReadyH.cons (o:=_) rfl (fun K hK=> ?_) AllReadyH.nil;go_simp;(go_at_call 168;(with_reducible refine(q27 HSfd HSgd HXd HNf HNg D5).mono ?_);rintro e w5 ⟨rfl,hb⟩;have HX:=zj HXd hb;have hb0:w5.cell? ⟨w.heap.size,0,none⟩=some vf:=(by rw[hvf];exact(HFB.out.keep HX.out HFBZ.out) 0 _ rfl);have hb2:=(HFB.out.keep HX.out HFBZ.out) 2 _ rfl;have hb3:=(HFB.out.keep HX.out HFBZ.out) 3 _ rfl;have hg0:w5.cell? ⟨w.heap.size+1,0,none⟩=some vg:=(by rw[hvg];exact(HGB.out.keep HX.out HGBZ.out) 0 _ rfl);have hg2:=(HGB.out.keep HX.out HGBZ.out) 2 _ rfl;have hg3:=(HGB.out.keep HX.out HGBZ.out) 3 _ rfl;clear hb)
 refine hK.out _ _ ⟨hb0,hb2,hb3,hg0,hg2,hg3⟩ (fun hHeld=> ?_);clear hK K;try simp only[sA,sB,sC,Act.put,sD,sE,sF]
 refine mT 7 (h:=mU 8 (h:=mU 9 (h:=mU 10 (h:=mU 11 (h:=mU 12 (h:=mT 13 (h:=mT 14 (h:= ?_))))))));refine wpAnyH_done (by kernel_rfl) ?_ _;refine NoPanic.normal ?_;go_wp2_with fail
 go_ret;exact⟨by rw[E2.out];rfl,HW.out.trans (HX.out.mono HZw.out)⟩):P:=h
theorem q45{P:Prop}(h:P:=by
 go_wp2_with fail
 go_ret;exact⟨by rw[E2.out];rfl,HW.out.trans (HX.out.mono HZw.out)⟩):P:=h
theorem q22{P:Prop}(h:P:=by
 cases d5
 ·have E2:=zH (show QG ⟨fa,fl,(fr0,fr1),fc,fd,fp,fh⟩ ⟨ga,gl,(gr0,gr1),gc,gd,gp,gh⟩=false by unfold QG;dsimp only;rw[D5.out];rfl);refine wp_region_noPanic ?_;refine wp_region_held_drew (S:=(fun w'=>w'.cell? ⟨w.heap.size,0,none⟩=some vf∧w'.cell? ⟨w.heap.size,2,none⟩=some (.int .i64 fr0)∧w'.cell? ⟨w.heap.size,3,none⟩=some (.int .i64 fr1)∧w'.cell? ⟨w.heap.size+1,0,none⟩=some vg∧w'.cell? ⟨w.heap.size+1,2,none⟩=some (.int .i64 gr0)∧w'.cell? ⟨w.heap.size+1,3,none⟩=some (.int .i64 gr1))) (by kernel_rfl) ⟨hb0,hb2,hb3,hg0,hg2,hg3⟩ (fun hHeld=> ?_);exact qfz
 ·by_cases hret:fr0=gr0∧fr1=gr1
  ·obtain⟨rfl,rfl⟩:=hret;have E2:=zH (show QG ⟨fa,fl,(fr0,fr1),fc,fd,fp,fh⟩ ⟨ga,gl,(fr0,fr1),gc,gd,gp,gh⟩=true by unfold QG;dsimp only;rw[D5.out,Xm (rfl:(fr0,fr1)=(fr0,fr1))];rfl);go_region_held3 (fun w'=>w'.cell? ⟨w.heap.size,0,none⟩=some vf∧w'.cell? ⟨w.heap.size,2,none⟩=some (.int .i64 fr0)∧w'.cell? ⟨w.heap.size,3,none⟩=some (.int .i64 fr1)∧w'.cell? ⟨w.heap.size+1,0,none⟩=some vg∧w'.cell? ⟨w.heap.size+1,2,none⟩=some (.int .i64 fr0)∧w'.cell? ⟨w.heap.size+1,3,none⟩=some (.int .i64 fr1)) (first|exact⟨hb0,hb2,hb3,hg0,hg2,hg3⟩) (first|(go_at_call 168;(with_reducible refine(q27 HSfd HSgd HXd HNf HNg D5).mono ?_);rintro e w5 ⟨rfl,hb⟩;have HX:=zj HXd hb;have hb0:w5.cell? ⟨w.heap.size,0,none⟩=some vf:=(by rw[hvf];exact(HFB.out.keep HX.out HFBZ.out) 0 _ rfl);have hb2:=(HFB.out.keep HX.out HFBZ.out) 2 _ rfl;have hb3:=(HFB.out.keep HX.out HFBZ.out) 3 _ rfl;have hg0:w5.cell? ⟨w.heap.size+1,0,none⟩=some vg:=(by rw[hvg];exact(HGB.out.keep HX.out HGBZ.out) 0 _ rfl);have hg2:=(HGB.out.keep HX.out HGBZ.out) 2 _ rfl;have hg3:=(HGB.out.keep HX.out HGBZ.out) 3 _ rfl;clear hb))
   exact q45
  ·have E2:=zH (show QG ⟨fa,fl,(fr0,fr1),fc,fd,fp,fh⟩ ⟨ga,gl,(gr0,gr1),gc,gd,gp,gh⟩=false by unfold QG;dsimp only;rw[Xg (show ¬(fr0,fr1)=(gr0,gr1)by simpa using hret)];simp);have hxx:¬fr0=gr0∨(fr0=gr0∧¬fr1=gr1):=by omega
   clear hret;rcases hxx with hxx|⟨rfl,hxx⟩
   ·go_region_held3 (fun w'=>w'.cell? ⟨w.heap.size,0,none⟩=some vf∧w'.cell? ⟨w.heap.size,2,none⟩=some (.int .i64 fr0)∧w'.cell? ⟨w.heap.size,3,none⟩=some (.int .i64 fr1)∧w'.cell? ⟨w.heap.size+1,0,none⟩=some vg∧w'.cell? ⟨w.heap.size+1,2,none⟩=some (.int .i64 gr0)∧w'.cell? ⟨w.heap.size+1,3,none⟩=some (.int .i64 gr1)) (first|exact⟨hb0,hb2,hb3,hg0,hg2,hg3⟩) (first|(go_at_call 168;(with_reducible refine(q27 HSfd HSgd HXd HNf HNg D5).mono ?_);rintro e w5 ⟨rfl,hb⟩;have HX:=zj HXd hb;have hb0:w5.cell? ⟨w.heap.size,0,none⟩=some vf:=(by rw[hvf];exact(HFB.out.keep HX.out HFBZ.out) 0 _ rfl);have hb2:=(HFB.out.keep HX.out HFBZ.out) 2 _ rfl;have hb3:=(HFB.out.keep HX.out HFBZ.out) 3 _ rfl;have hg0:w5.cell? ⟨w.heap.size+1,0,none⟩=some vg:=(by rw[hvg];exact(HGB.out.keep HX.out HGBZ.out) 0 _ rfl);have hg2:=(HGB.out.keep HX.out HGBZ.out) 2 _ rfl;have hg3:=(HGB.out.keep HX.out HGBZ.out) 3 _ rfl;clear hb))
    exact q45
   ·go_region_held3 (fun w'=>w'.cell? ⟨w.heap.size,0,none⟩=some vf∧w'.cell? ⟨w.heap.size,2,none⟩=some (.int .i64 fr0)∧w'.cell? ⟨w.heap.size,3,none⟩=some (.int .i64 fr1)∧w'.cell? ⟨w.heap.size+1,0,none⟩=some vg∧w'.cell? ⟨w.heap.size+1,2,none⟩=some (.int .i64 fr0)∧w'.cell? ⟨w.heap.size+1,3,none⟩=some (.int .i64 gr1)) (first|exact⟨hb0,hb2,hb3,hg0,hg2,hg3⟩) (first|(go_at_call 168;(with_reducible refine(q27 HSfd HSgd HXd HNf HNg D5).mono ?_);rintro e w5 ⟨rfl,hb⟩;have HX:=zj HXd hb;have hb0:w5.cell? ⟨w.heap.size,0,none⟩=some vf:=(by rw[hvf];exact(HFB.out.keep HX.out HFBZ.out) 0 _ rfl);have hb2:=(HFB.out.keep HX.out HFBZ.out) 2 _ rfl;have hb3:=(HFB.out.keep HX.out HFBZ.out) 3 _ rfl;have hg0:w5.cell? ⟨w.heap.size+1,0,none⟩=some vg:=(by rw[hvg];exact(HGB.out.keep HX.out HGBZ.out) 0 _ rfl);have hg2:=(HGB.out.keep HX.out HGBZ.out) 2 _ rfl;have hg3:=(HGB.out.keep HX.out HGBZ.out) 3 _ rfl;clear hb))
    exact q45):P:=h
set_option maxHeartbeats 6400000 in
theorem qj5(x y:zh)(hx hy:qx)(w:World)(H:jt w w.heap.size hx x)(H':jt w w.heap.size hy y)(hfp:0<x.args.length)(hgp:0<y.args.length):
  Calls Tryz.prog 131 #[kn hx x,kn hy y] w fun e w'=>e= .returned (.bool (QG x y))∧Below w.heap.size w w':=by
 obtain⟨hq,hp,hb,hz⟩:=q92 w (qb hx x) (qb hy y) 53 53;have HFB:=zH hq;have HGB:=zH hp;have HW:=zH hb;have HSfa:=zH (H.now hb).args;have HSga:=zH (H'.now hb).args;have HFBZ:Hid (w.heap.size<((w.alloc (.cells (qb hx x).toArray 53)).alloc (.cells (qb hy y).toArray 53)).heap.size):=zH (by omega);have HGBZ:Hid (w.heap.size+1<((w.alloc (.cells (qb hx x).toArray 53)).alloc (.cells (qb hy y).toArray 53)).heap.size):=zH (by omega);have HZw:Hid (w.heap.size≤((w.alloc (.cells (qb hx x).toArray 53)).alloc (.cells (qb hy y).toArray 53)).heap.size):=zH (by omega);have hj0:=H.args.le;have hj0c:=H.args.cap;have hi0:=H'.args.le;have hi0c:=H'.args.cap;clear hq hp hb hz H H';go_enter Tryz.func131,Tryz.ntmps131;go_upto_region 1 with fail
 generalize(w.alloc (.cells (qb hx x).toArray 53)).alloc (.cells (qb hy y).toArray 53)=w1 at*
 obtain⟨A0f,A1f,A4f,A7f,j0,j1,j4,j7⟩:=hx;obtain⟨A0g,A1g,A4g,A7g,i0,i1,i4,i7⟩:=hy;obtain⟨fa,fl,⟨fr0,fr1⟩,fc,fd,fp,fh⟩:=x;obtain⟨ga,gl,⟨gr0,gr1⟩,gc,gd,gp,gh⟩:=y;dsimp only at*
 obtain⟨adt,rfl,_,_⟩:=HSfa.out.row.at_ hfp;obtain⟨adg,rfl,_,_⟩:=HSga.out.row.at_ hgp;obtain⟨vf,hvf⟩:∃v,v=Value.slice (some adt) fa.length j0:=⟨_,rfl⟩
 obtain⟨vg,hvg⟩:∃v,v=Value.slice (some adg) ga.length i0:=⟨_,rfl⟩
 have hb0:w1.cell? ⟨w.heap.size,0,none⟩=some vf:=by rw[hvf];exact HFB.out 0 _ rfl
 have hb2:=HFB.out 2 _ rfl;have hb3:=HFB.out 3 _ rfl;have hg0:w1.cell? ⟨w.heap.size+1,0,none⟩=some vg:=by rw[hvg];exact HGB.out 0 _ rfl
 have hg2:=HGB.out 2 _ rfl;have hg3:=HGB.out 3 _ rfl;have HXd:Hid (Below w1.heap.size w1 w1.drew):=zH (zb _ _).drew;have hf1:(1:Int)≤(fa.length:Int):=by omega
 have hf2:1≤fa.length:=hfp;have hf3:(fa.length:Int)≤(j0:Int):=by omega
 have hg1':(1:Int)≤(ga.length:Int):=by omega
 have hg2':1≤ga.length:=hgp;have hg3':(ga.length:Int)≤(i0:Int):=by omega
 obtain⟨d5,hd5⟩:∃d,decide (fa.drop 1=ga.drop 1)=d:=⟨_,rfl⟩
 have D5:=zH hd5;clear hd5;by_cases hj1:j0=1
 ·subst hj1;have HSfd:=zH (q5d HSfa.out hfp);by_cases hi1:i0=1
  ·subst hi1;have HSgd:=zH (q5d HSga.out hgp);have HNf:Hid ((fa.drop 1).length=0):=zH (by rw[XT];omega);have HNg:Hid ((ga.drop 1).length=0):=zH (by rw[XT];omega);exact q22
  ·have HSgd:=zH (q65 HSga.out hgp);have HNf:Hid ((fa.drop 1).length=0):=zH (by rw[XT];omega);have HNg:Hid ((ga.drop 1).length=ga.length - 1):=zH XT;exact q22
 ·have HSfd:=zH (q65 HSfa.out hfp);by_cases hi1:i0=1
  ·subst hi1;have HSgd:=zH (q5d HSga.out hgp);have HNf:Hid ((fa.drop 1).length=fa.length - 1):=zH XT;have HNg:Hid ((ga.drop 1).length=0):=zH (by rw[XT];omega);exact q22
  ·have HSgd:=zH (q65 HSga.out hgp);have HNf:Hid ((fa.drop 1).length=fa.length - 1):=zH XT;have HNg:Hid ((ga.drop 1).length=ga.length - 1):=zH XT;exact q22
end Go.Proofs.YtcmiljnbmgkdnaaGreat
