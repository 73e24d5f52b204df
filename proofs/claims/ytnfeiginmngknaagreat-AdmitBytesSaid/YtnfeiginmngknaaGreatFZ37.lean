import Derived.Test.YtnfeiginmngknaaGreatFZ36
namespace Go.Proofs.YtnfeiginmngknaaGreat
set_option maxRecDepth 100000
set_option linter.unusedVariables false
set_option linter.unusedSimpArgs false
open Go.ChangeShapes Go.WideShapes Go.ChangeAt Go.RowKit
def WW(m:za)(l:List (List zq))(w:World)(e:Ending)(w':World):Prop:=∃s p ok,e= .returned (.tuple #[.int .i64 s,.int .i64 p,.bool ok])/\Below w.heap.size w w'/\ok=kQ m/\(ok=true->s=pI m l/\p=pX m)
theorem qby{m:za}{maps:List (List zq)}{A:Option Addr}{c n:Nat}{h:zh}{w0 w:World}(HI:Hid (zr w0 w0.heap.size h m))(HX:Hid (Below w0.heap.size w0 w))(HS:Hid (Ql m=true))(HM:Hid (zd (zM vd 2) 1 w w.heap.size A c maps))(HZ:Hid (ZS 4000 maps))(HN:Hid (maps.length=n)):
  Calls Tryz.prog 53 #[zv h m,.slice A n c] w (WY m maps w):=by
 obtain rfl:=HN.out;exact q70 m maps A c h w (HI.out.now HX.out) HS.out HM.out HZ.out
set_option maxHeartbeats 6400000 in
theorem q6q(m:za)(l:List (List zq))(A:Option Addr)(c:Nat)(h:zh)(w:World)(H:zr w w.heap.size h m)(hs:Ql m=true)(hM:zd (zM vd 2) 1 w w.heap.size A c l)(hz:ZS 4000 l):
  Calls Tryz.prog 32 #[zv h m,.slice A l.length c] w (WW m l w):=by
 have hsn:=PR hs;have VO:=zH (fun f (hf:f ∈m.entries)=>Kb hsn hf);have HM:=zH (mW hsn);have HS:=zH hs;have HW:=zH (vU (w:=w) (h:=h) (m:=m));have HBX:=zH (qd w h m);have HZ:Hid (w.heap.size<(w.alloc (ze h m)).heap.size):=zH (by simp);have HI:=zH (H.now HW.out);have Zd:=zH (jP Vp.keeps hM HW.out);have vl:=zH hz;have FD:=zH (zd.row (HI.out.entries));have hle:=H.entries.le;have hcap:=H.entries.cap;have hml:=H.methods.le;have hmc:=H.methods.cap;have hsl:=(mW hsn).fits.sl;have Zj:Hid (l.length=l.length):=zH rfl;obtain⟨nl,hnl⟩:∃z,l.length=z:=⟨_,rfl⟩
 rw[hnl];have Zj:=zH hnl;clear H hs hM hz hsn hnl;obtain⟨A0,Ab,A2,A3,A4,k0,k1,k2,k3,k4⟩:=h;dsimp only at hle hcap hml hmc FD;go_enter Tryz.func32,Tryz.ntmps32;go_upto_region 1 with fail
 generalize w.alloc (ze ⟨A0,Ab,A2,A3,A4,k0,k1,k2,k3,k4⟩ m)=w1 at*
 obtain⟨q0,q1,q2,q3,q4,q5,q6⟩:=HBX.out;dsimp only at q0 q1 q2 q3 q4 q5 q6;have HX0:=qP w1;go_upto_region 2 with(go_at_call 53;(with_reducible refine(qby HI HX0 HS Zd vl Zj).mono ?_);rintro e w6 ⟨Ab6,nb6,cb6,ok,rfl,hb,hok,Qd⟩;have HX6:=zH hb;have vQ:=zH hok;have vy:=zH Qd;clear hb hok Qd)
 clear q0 q1 q2 q3 q4 q5 q6;obtain⟨q0,q1,q2,q3,q4,q5,q6⟩:=HBX.out.keep HX6.out HZ.out;dsimp only at q0 q1 q2 q3 q4 q5 q6;cases ok
 ·go_wp2_with fail
  go_ret3
  exact⟨0,0,false,rfl,HW.out.trans (HX6.out.mono (Xg HZ.out)),vQ.out,fun e=>by cases e⟩
 obtain⟨hnb,hsb⟩:=vy.out rfl;have QV:=zH hsb;have hb1:=hsb.le;have hb2:=hsb.cap;rw[yV]at hb1;clear hsb vy;subst hnb;go_wp2_with fail
 go_loopw [9,10,11] (fun sv pv i wr=>∃k:Nat,k<=m.entries.length/\i= .int .i64 k/\sv= .int .i64 (Jg (vV m l) (m.entries.take k))/\pv= .int .i64 (jp m (m.entries.take k))/\wr=w6) (fun _ _ i _=>m.entries.length - (intOf i).toNat)
 case atStart=>exact⟨0,Xn _,rfl,rfl,rfl,rfl⟩
 case round=>
  obtain⟨k,hk,rfl,rfl,rfl,hwr⟩:=hrel;obtain rfl:=hwr.symm;by_cases hlt:k<m.entries.length
  ·obtain⟨f,hf⟩:=zj (m.entries[k]);obtain⟨f0,f1⟩:=VO.out f (by rw[<-hf];exact Xd hlt);obtain⟨fn,rfl⟩:=Xj f0;have hfn:fn<m.methods.length:=by omega
   have HT1:Hid (Jg (vV m l) (m.entries.take (k+1))=pO (vV m l) (Jg (vV m l) (m.entries.take k)) (fn:Int)):=zH (by rw[q5z hlt,hf]);have HT2:Hid (jp m (m.entries.take (k+1))=ko m (jp m (m.entries.take k)) (fn:Int)):=zH (by rw[K9 hlt,hf]);obtain⟨dI,rfl,x9,e0⟩:=FD.out.at_ hlt;rw[Xq,hf]at e0;have e1:=(HX6.out.cell (p:=dI.add k) (by exact zZ x9)).trans e0;obtain⟨adB,rfl,habB,b0⟩:=QV.out.row.at_ (show fn<(vV m l).length by rw[yV];exact hfn);rw[Xq,<-VG (show fn<(vV m l).length by rw[yV];exact hfn)]at b0;obtain⟨Zt,hxm,eM,oI,hin,hcm⟩:=Zx HI.out hfn;dsimp only at eM;subst eM;have c6:=(hcm.keep HX6.out (by exact zZ oI)).c6;have hpt:(zA m (fn:Int))=m.methods[fn]:=by unfold zA;rw[Xo,Xc hfn];rfl
   obtain⟨bv,hbv⟩:∃z,oN (vV m l) fn=z:=⟨_,rfl⟩
   obtain⟨pv,hpv⟩:∃z,m.methods[fn].pot=z:=⟨_,rfl⟩
   rw[hbv]at b0;replace b0:w6.cell? (adB.add fn)=some (.int .i64 bv):=b0;rw[hpv]at c6;have qZ:Hid (∀s,pO (vV m l) s (fn:Int)=if bv>s then bv else s):=zH (fun s=>by unfold pO;rw[Xo,hbv]);have HS2:Hid (∀p,ko m p (fn:Int)=if pv>p then pv else p):=zH (fun p=>by unfold ko;rw[hpt,hpv]);generalize Jg (vV m l) (m.entries.take k)=sv at*
   generalize jp m (m.entries.take k)=pq at*
   clear hbv hpv hpt hcm hin e0 hf;by_cases h1:bv>sv;all_goals by_cases h2:pv>pq
   all_goals
    go_wp2_with fail
    go_roundw
   any_goals case measure=>simp[intOf];omega
   ·exact⟨k+1,by omega,by go_num,by rw[HT1.out,qZ.out,Xb h1],by rw[HT2.out,HS2.out,Xb h2],by first|rfl|Xs⟩
   ·exact⟨k+1,by omega,by go_num,by rw[HT1.out,qZ.out,Xb h1],by rw[HT2.out,HS2.out,Xa h2],by first|rfl|Xs⟩
   ·exact⟨k+1,by omega,by go_num,by rw[HT1.out,qZ.out,Xa h1],by rw[HT2.out,HS2.out,Xb h2],by first|rfl|Xs⟩
   ·exact⟨k+1,by omega,by go_num,by rw[HT1.out,qZ.out,Xa h1],by rw[HT2.out,HS2.out,Xa h2],by first|rfl|Xs⟩
  ·obtain rfl:k=m.entries.length:=by omega
   have hki:¬(m.entries.length:Int)<(m.entries.length:Int):=by omega
   have jS:Hid (Jg (vV m l) (m.entries.take m.entries.length)=pI m l):=zH (by rw[XL];rfl);have hp:=Kw HM.out (m.entries.take m.entries.length);have M8:Hid (pX m=(m.statics.length:Int)+jp m (m.entries.take m.entries.length)):=zH (by rw[XL];rfl);rw[jS.out];generalize jp m (m.entries.take m.entries.length)=pq at*
   go_wp2_with fail
   go_region
   go_wp2_with fail
   go_ret3
   exact⟨_,_,true,rfl,HW.out.trans (HX6.out.mono (Xg HZ.out)).drew,vQ.out,fun _=>⟨rfl,M8.out.symm⟩⟩
