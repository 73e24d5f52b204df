import Derived.Test.YtnfeiginmngknaaGreatFZ14
namespace Go.Proofs.YtnfeiginmngknaaGreat
set_option maxRecDepth 100000
set_option linter.unusedVariables false
set_option linter.unusedSimpArgs false
open Go.ChangeShapes Go.WideShapes Go.ChangeAt Go.RowKit
def EntRel(m:za)(w1:World)(o i:Value)(wr:World):Prop:=
 ∃(k:Nat) (b:Bool),k<=m.entries.length/\i= .int .i64 k/\o= .bool b/\Hid (b=Vb (Zz m) m.entries k)/\Hid (Below w1.heap.size w1 wr)
theorem PX{P:Prop}(h:P:=by
 go_wp2_with fail
 go_loop [3,8] (fun o i=>∃(k2:Nat) (b2:Bool),k2<=fa.length/\i= .int .i64 k2/\o= .bool b2/\Hid (b2=(true&& Vb (fun t:Int×Int=>decide (t.1=1)) fa k2))) (fun _ i=>fa.length - (intOf i).toNat)
 case atStart=>exact⟨0,true,by omega,rfl,rfl,zH (by rw[DR];rfl)⟩
 case round=>
  obtain⟨k2,b2,hk2,rfl,rfl,gJ⟩:=hrel;cases b2
  ·have uA:=zH (show Zz m (n:Int)=false by
    rw[gD.out,ky.out];have h:=gJ.out;cases hu:Vb (fun t:Int×Int=>decide (t.1=1)) fa k2
    ·rw[Ar hu];simp
    ·first|(rw[hu]at h;simp at h;done)|rfl|simp)
   by_cases hlt2:k2<fa.length;all_goals
    go_wp2_with fail
    go_roundw;case rel=>first|exact⟨k+1,false,by omega,by go_num,rfl,zH (by rw[HS.out,uA.out];simp),HX⟩|exact⟨_,_,_,⟨k+1,false,by omega,by go_num,rfl,zH (by rw[HS.out,uA.out];simp),HX⟩,rfl,rfl,rfl⟩|exact⟨_,_,_,⟨k+1,false,by omega,by go_num,rfl,zH (by rw[HS.out,uA.out];simp),HX⟩,rfl⟩
    case measure=>simp[intOf];omega
  ·by_cases hlt2:k2<fa.length
   ·obtain⟨Ye,Mx,yn,t0,t1⟩:=HA.out.row.at_ hlt2;have HS2:=zH (DT (p:=fun t:Int×Int=>decide (t.1=1)) hlt2);generalize fa[k2]=t at*
    obtain⟨tk,tn⟩:=t;dsimp only at t0 t1 HS2;rw[Mx]at s0;by_cases htk:tk=1
    ·subst htk;go_wp2_with fail
     go_round
     case rel=>exact⟨k2+1,true,by omega,by go_num,rfl,zH (by rw[HS2.out];have h:=gJ.out;rw[Xi rfl];first|(simp at h;done)|simpa using h)⟩
     case measure=>simp[intOf];omega
    ·have qmp:(tk==1)=false:=by simpa using htk
     go_wp2_with fail
     go_round
     case rel=>exact⟨k2+1,false,by omega,by go_num,rfl,zH (by rw[HS2.out,Xf htk];simp)⟩
     case measure=>simp[intOf];omega
   ·have sM:=zH (show Zz m (n:Int)=true by
     rw[gD.out,ky.out,<-Et (p:=fun t:Int×Int=>decide (t.1=1)) (k:=k2) (by omega)];exact gJ.out.symm)
    go_wp2_with fail
    go_roundw;case rel=>first|exact⟨k+1,true,by omega,by go_num,rfl,zH (by rw[HS.out,sM.out,<-HP.out];rfl),HX⟩|exact⟨_,_,_,⟨k+1,true,by omega,by go_num,rfl,zH (by rw[HS.out,sM.out,<-HP.out];rfl),HX⟩,rfl,rfl,rfl⟩|exact⟨_,_,_,⟨k+1,true,by omega,by go_num,rfl,zH (by rw[HS.out,sM.out,<-HP.out];rfl),HX⟩,rfl⟩
    case measure=>simp[intOf];omega):P:=h
theorem IJ{P:Prop}(h:P:=by
 go_wp2_with fail
 go_loopw [3,6] (fun o i wr=>o= .bool false/\i= .int .i64 0/\Hid (Below w1.heap.size w1 wr)) (fun _ _ _=>0)
 case atStart=>exact⟨rfl,rfl,HX⟩
 case round=>
  clear HX q0 q1 q2 q3 q4 q5 q6;obtain⟨rfl,rfl,HX⟩:=hrel;obtain⟨q0,q1,q2,q3,q4,q5,q6⟩:=HBX.out.box.keep HX.out HZ.out;by_cases hl6:0<m.entries.length;all_goals
   go_wp2_with fail
   go_ret;exact⟨by rw[EN.out];rfl,zD HW HX⟩):P:=h
set_option maxHeartbeats 12800000 in
theorem qbl(m:za)(h:zh)(w:World)(H:zr w w.heap.size h m):
  Calls Tryz.prog 30 #[zv h m] w fun e w'=>e= .returned (.int .i64 (jQ m))/\Below w.heap.size w w':=by
 have HBX:=zH (Boxed.new H);have HW:=zH (vU (w:=w) (h:=h) (m:=m));obtain⟨r,hr⟩:=zj (zV m);have R:=zH hr;clear hr;have hc0:=H.classes.le;have hc0':=H.classes.cap;have hc3:=H.methods.le;have q14:=H.methods.cap;have hc4:=H.entries.le;have q1r:=H.entries.cap;clear H;go_enter Tryz.func30,Tryz.ntmps30;go_upto_region 1 with fail
 generalize w.alloc (ze h m)=w1 at*
 have HZ:=zH HBX.out.lt;have HI1:=zH HBX.out.img;obtain⟨q0,q1,q2,q3,q4,q5,q6⟩:=HBX.out.box;cases r
 ·have EN:=zH (Az R.out);go_wp2_with(go_at_call 6;(with_reducible refine(y8 m h _ _ (zn _) HI1.out).mono ?_);rintro e w2 ⟨he,hb⟩;rw[R.out]at he;subst he;have HX:=zH hb;obtain⟨q0,q1,q2,q3,q4,q5,q6⟩:=HBX.out.box.keep HX.out HZ.out;clear hb)
  go_ret;exact⟨by rw[EN.out];rfl,zD HW HX⟩
 ·have kg:=zH (ru R.out);have HT:Hid (aO m):=zH ⟨by have:=kg.out.cl;omega,fun x hx=>by have:=(kg.out.ct x hx).fl;omega⟩;have jD:Hid (∀y ∈m.classes,∀s ∈y.slots,0<=s):=zH (fun y hy s hs=>((kg.out.ct y hy).st s hs).1);have VO:Hid (∀n ∈m.entries,0<=n):=zH (fun n hn=>(kg.out.et n hn).1);have F9:=zH HBX.out.img.statics;obtain⟨g0,hg0⟩:=zj (vC m.statics m.classes.length);have G0:=zH hg0;clear hg0;cases g0
  ·have EN:=zH (mr R.out (show okB m=false by unfold okB;rw[G0.out];rfl));go_upto_region 4 with(first|(go_at_call 6;(with_reducible refine(y8 m h _ _ (zn _) HI1.out).mono ?_);rintro e w2 ⟨he,hb⟩;rw[R.out]at he;subst he;have HX:=zH hb;obtain⟨q0,q1,q2,q3,q4,q5,q6⟩:=HBX.out.box.keep HX.out HZ.out;clear hb)|(go_at_call 49;(with_reducible refine(pY HI1 F9 HX G0).mono ?_);rintro e w3 ⟨rfl,hb⟩;have HX:=zi HX hb;obtain⟨q0,q1,q2,q3,q4,q5,q6⟩:=HBX.out.box.keep HX.out HZ.out;clear hb))
   go_wp2_with fail
   go_loopw [3,4] (fun o i wr=>o= .bool false/\i= .int .i64 0/\Hid (Below w1.heap.size w1 wr)) (fun _ _ _=>0)
   case atStart=>exact⟨rfl,rfl,HX⟩
   case round=>
    clear HX q0 q1 q2 q3 q4 q5 q6;obtain⟨rfl,rfl,HX⟩:=hrel;obtain⟨q0,q1,q2,q3,q4,q5,q6⟩:=HBX.out.box.keep HX.out HZ.out;by_cases hl4:0<m.classes.length;all_goals
     go_wp2_with fail
     go_loopw [3,5] (fun o i wr=>o= .bool false/\i= .int .i64 0/\Hid (Below w1.heap.size w1 wr)) (fun _ _ _=>0)
     case atStart=>exact⟨rfl,rfl,HX⟩
     case round=>
      clear HX q0 q1 q2 q3 q4 q5 q6;obtain⟨rfl,rfl,HX⟩:=hrel;obtain⟨q0,q1,q2,q3,q4,q5,q6⟩:=HBX.out.box.keep HX.out HZ.out;by_cases hl5:0<m.methods.length;all_goals
       exact IJ
  ·go_upto_region 4 with(first|(go_at_call 6;(with_reducible refine(y8 m h _ _ (zn _) HI1.out).mono ?_);rintro e w2 ⟨he,hb⟩;rw[R.out]at he;subst he;have HX:=zH hb;obtain⟨q0,q1,q2,q3,q4,q5,q6⟩:=HBX.out.box.keep HX.out HZ.out;clear hb)|(go_at_call 49;(with_reducible refine(pY HI1 F9 HX G0).mono ?_);rintro e w3 ⟨rfl,hb⟩;have HX:=zi HX hb;obtain⟨q0,q1,q2,q3,q4,q5,q6⟩:=HBX.out.box.keep HX.out HZ.out;clear hb))
   go_wp2_with fail
   go_loopw [3,4] (fun o i wr=>∃(k:Nat) (b:Bool),k<=m.classes.length/\i= .int .i64 k/\o= .bool b/\Hid (b=YY m k)/\Hid (Below w1.heap.size w1 wr)) (fun _ i _=>m.classes.length - (intOf i).toNat)
   case atStart=>exact⟨0,true,by omega,rfl,rfl,zH (q9l m).symm,HX⟩
   case round=>
    clear HX q0 q1 q2 q3 q4 q5 q6;obtain⟨k,b,hk,rfl,rfl,HP,HX⟩:=hrel;obtain⟨q0,q1,q2,q3,q4,q5,q6⟩:=HBX.out.box.keep HX.out HZ.out;cases b
    ·have EN:=zH (mr R.out (show okB m=false by unfold okB;rw[qej HP.out.symm hk];simp));by_cases hlt:k<m.classes.length;all_goals
      go_wp2_with fail
      go_loopw [3,5] (fun o i wr=>o= .bool false/\i= .int .i64 0/\Hid (Below w1.heap.size w1 wr)) (fun _ _ _=>0)
      case atStart=>exact⟨rfl,rfl,HX⟩
      case round=>
       clear HX q0 q1 q2 q3 q4 q5 q6;obtain⟨rfl,rfl,HX⟩:=hrel;obtain⟨q0,q1,q2,q3,q4,q5,q6⟩:=HBX.out.box.keep HX.out HZ.out;by_cases hl5:0<m.methods.length;all_goals
        exact IJ
    ·by_cases hlt:k<m.classes.length
     ·have hx:=Xc hlt;have HS:=zH (q9m hx);have qY:=zH (fun g:(m.classes[k]).sup<(k:Int)=>qil (m:=m) HP.out.symm g);have bn:=zH hx;generalize m.classes[k]=x at*
      obtain⟨r,hr⟩:=zj (jG m (k:Int) x);have HR:=zH hr;have Nz:=zH (HBX.out.img.now HX.out);clear hx hr;go_wp2_with(go_at_call 50;(with_reducible refine(q6y m x k h _ Nz.out HT.out bn.out jD.out qY.out).mono ?_);rintro e w3 ⟨he,hb⟩;rw[HR.out]at he;subst he;have zp:=zi HX hb;clear hb)
      go_roundw;case rel=>exact⟨k+1,r,by omega,by go_num,rfl,zH (by rw[HS.out,HR.out,<-HP.out];rfl),zp⟩
      case measure=>simp[intOf];omega
     ·have Qe:=zH (show YY m m.classes.length=true by rw[show m.classes.length=k by omega];exact HP.out.symm);go_wp2_with fail
      go_loopw [3,5] (fun o i wr=>∃(k:Nat) (b:Bool),k<=m.methods.length/\i= .int .i64 k/\o= .bool b/\Hid (b=Vb (jK m) m.methods k)/\Hid (Below w1.heap.size w1 wr)) (fun _ i _=>m.methods.length - (intOf i).toNat)
      case atStart=>exact⟨0,true,by omega,rfl,rfl,zH (DR _ _).symm,HX⟩
      case round=>
       clear HX q0 q1 q2 q3 q4 q5 q6;obtain⟨k,b,hk,rfl,rfl,HP,HX⟩:=hrel;obtain⟨q0,q1,q2,q3,q4,q5,q6⟩:=HBX.out.box.keep HX.out HZ.out;cases b
       ·have EN:=zH (mr R.out (show okB m=false by unfold okB;rw[Ar (p:=jK m) HP.out.symm];simp));by_cases hlt:k<m.methods.length;all_goals
         exact IJ
       ·by_cases hlt:k<m.methods.length
        ·obtain⟨ad,e0,hab,hm⟩:=(HBX.out.img.methods.below_to kd.keeps HX.out (zn _)).row.at_ hlt;have oJ:=zH e0;rw[e0]at q3;clear e0;have HS:=zH (DT (p:=jK m) hlt);have NH:=zH (kg.out.mt _ (Xd hlt));generalize m.methods[k]=x at*
         obtain⟨⟨A0,k0,s0,hs0⟩,⟨A1,k1,s1,hs1⟩,s2,s3,⟨A4,k4,s4,hs4⟩,s5,s6,⟨A7,k7,s7,hs7⟩⟩:=hm;have HMI:Hid (jR wr.drew wr.drew.heap.size ⟨A0,A1,A4,A7,k0,k1,k4,k7⟩ x):=zH ⟨hs0.keep' zf.keeps HX.out.size (fun _ _=>rfl),hs1.keep' zf.keeps HX.out.size (fun _ _=>rfl),hs4.keep' ju.keeps HX.out.size (fun _ _=>rfl),hs7.keep' zu.keeps HX.out.size (fun _ _=>rfl)⟩;have Nz:Hid (zr wr.drew wr.drew.heap.size h m):=zH ((HBX.out.img.now HX.out).keep' (zn _) (fun _ _=>rfl));have MN:Hid (iE x):=zH ⟨by have:=NH.out.al;omega,by have:=NH.out.ll;omega,fun i hi=>(YN (NH.out.ct i hi)).2.2.1⟩;have HCB:Hid (∀W,Below wr.drew.heap.size wr.drew W->W.cell? (ad.add (k*8))=wr.cell? (ad.add (k*8))/\∀i,W.cell? (zc (ad.add (k*8)) i)=wr.cell? (zc (ad.add (k*8)) i)):=zH (fun W hW=>⟨hW.cell (p:=ad.add (k*8)) (by rw[zC];exact Xp hab HX.out.size),fun i=>hW.cell (p:=zc (ad.add (k*8)) i) (by show(ad.add _).block<_;rw[zC];exact Xp hab HX.out.size)⟩);obtain⟨r,hr⟩:=zj (jK m x);have HR:=zH hr;clear hs0 hs1 hs4 hs7 hab hr;have qf:Hid (Below w1.heap.size w1 wr.drew):=zH HX.out.drew;have qm0:=zH (show Calls Tryz.prog 51 #[.agg #[.slice h.A0 m.classes.length h.c0,.slice h.A1 m.statics.length h.c1,.slice h.A2 m.ints.length h.c2,.slice (some ad) m.methods.length h.c3,.slice h.A4 m.entries.length h.c4,.int .i64 m.stack,.int .i64 m.heap],ZD ⟨A0,A1,A4,A7,k0,k1,k4,k7⟩ x] wr.drew (fun e w'=>e= .returned (.bool r)/\Below wr.drew.heap.size wr.drew w')from by rw[<-oJ.out,<-HR.out];exact q4s m x h ⟨A0,A1,A4,A7,k0,k1,k4,k7⟩ _ Nz.out HMI.out HT.out MN.out);go_upto_region 11 with fail
         go_region_held3 (fun w'=>w'.cell? ⟨w.heap.size,0,none⟩=some (.slice h.A0 m.classes.length h.c0)/\w'.cell? ⟨w.heap.size,1,none⟩=some (.slice h.A1 m.statics.length h.c1)/\w'.cell? ⟨w.heap.size,2,none⟩=some (.slice h.A2 m.ints.length h.c2)/\w'.cell? ⟨w.heap.size,3,none⟩=some (.slice (some ad) m.methods.length h.c3)/\w'.cell? ⟨w.heap.size,4,none⟩=some (.slice h.A4 m.entries.length h.c4)/\w'.cell? ⟨w.heap.size,5,none⟩=some (.int .i64 m.stack)/\w'.cell? ⟨w.heap.size,6,none⟩=some (.int .i64 m.heap)/\w'.cell? (ad.add (k*8))=some (.slice A0 x.args.length k0)/\w'.cell? (zc (ad.add (k*8)) 1)=some (.slice A1 x.locals.length k1)/\w'.cell? (zc (ad.add (k*8)) 2)=some (.int .i64 x.ret.1)/\w'.cell? (zc (ad.add (k*8)) 3)=some (.int .i64 x.ret.2)/\w'.cell? (zc (ad.add (k*8)) 4)=some (.slice A4 x.code.length k4)/\w'.cell? (zc (ad.add (k*8)) 5)=some (.int .i64 x.depth)/\w'.cell? (zc (ad.add (k*8)) 6)=some (.int .i64 x.pot)/\w'.cell? (zc (ad.add (k*8)) 7)=some (.slice A7 x.phi.length k7))
          (first|go_keep|exact⟨q0,q1,q2,q3,q4,q5,q6,s0,s1,s2,s3,s4,s5,s6,s7⟩)
          (first|(go_at_call 51;(with_reducible refine qm0.out.mono ?_);rintro e w3 ⟨rfl,hb⟩;have zp:=zi qf hb;obtain⟨q0,q1,q2,q3,q4,q5,q6⟩:=HBX.out.box.keep zp.out HZ.out;rw[oJ.out]at q3;obtain⟨c0,c1⟩:=HCB.out _ hb;have s0:=c0.trans s0;have s1:=(c1 1).trans s1;have s2:=(c1 2).trans s2;have s3:=(c1 3).trans s3;have s4:=(c1 4).trans s4;have s5:=(c1 5).trans s5;have s6:=(c1 6).trans s6;have s7:=(c1 7).trans s7;clear hb c0 c1))
         go_wp2
         go_roundw;case rel=>exact⟨k+1,r,by omega,by go_num,rfl,zH (by rw[HS.out,HR.out,<-HP.out];rfl),zp⟩
         case measure=>simp[intOf];omega
        ·have HML:=zH (show m.methods.all (jK m)=true by rw[<-Et (k:=k) (by omega)];exact HP.out.symm);go_wp2_with fail
         go_loopw [2,3,6] (fun ret o i wr=>EntRel m w1 o i wr) (fun _ _ i _=>m.entries.length - (intOf i).toNat)
         case atStart=>exact⟨0,true,by omega,rfl,rfl,zH (DR _ _).symm,HX⟩
         case round=>
          clear HX q0 q1 q2 q3 q4 q5 q6;obtain⟨k,b,hk,rfl,rfl,HP,HX⟩:=hrel;obtain⟨q0,q1,q2,q3,q4,q5,q6⟩:=HBX.out.box.keep HX.out HZ.out;cases b
          ·have EN:=zH (mr R.out (show okB m=false by unfold okB;rw[Ar (p:=Zz m) HP.out.symm];simp));by_cases hlt:k<m.entries.length;all_goals
            go_wp2_with fail
            go_ret;exact⟨by rw[EN.out];rfl,zD HW HX⟩
          ·by_cases hlt:k<m.entries.length
           ·obtain⟨ade,e0,habe,he⟩:=(HBX.out.img.entries.below_to zu.keeps HX.out (zn _)).row.at_ hlt;rw[e0]at q4;have hn:=VO.out _ (Xd hlt);have HS:=zH (DT (p:=Zz m) hlt);rw[Xq]at he;have he':wr.cell? (ade.add k)=some (.int .i64 m.entries[k]):=he;clear he;generalize m.entries[k]=nz at*
            obtain⟨n,rfl⟩:=Xj hn;by_cases hnl:n<m.methods.length
            ·obtain⟨ad,e1,hab,hm⟩:=(HBX.out.img.methods.below_to kd.keeps HX.out (zn _)).row.at_ hnl;rw[e1]at q3;have gD:=zH (q92 (Xc hnl));generalize m.methods[n]=f at*
             obtain⟨⟨A0,k0,s0,hs0⟩,⟨A1,k1,s1,hs1⟩,s2,s3,⟨A4,k4,s4,hs4⟩,s5,s6,⟨A7,k7,s7,hs7⟩⟩:=hm;have hfa:=hs0.le;have hfb:=hs0.cap;have HA:=zH hs0;obtain⟨fa,fl,⟨qi,qB⟩,fc,fd,fp,fph⟩:=f;dsimp only at s0 s1 s2 s3 s4 s5 s6 s7 gD hfa hfb HA;clear hs0 hs1 hs4 hs7;obtain⟨r0,hr0⟩:=zj ((decide (qi=1)||decide (qi=5)));have ky:=zH hr0;clear hr0;have hcase:qi=1\/(¬qi=1/\qi=5)\/(¬qi=1/\¬qi=5):=by omega
             rcases hcase with rfl|⟨h1,rfl⟩|⟨h1,h5⟩
             ·obtain rfl:r0=true:=by have:=ky.out;simp at this;first|exact this.symm|exact this
              exact PX
             ·obtain rfl:r0=true:=by have:=ky.out;simp at this;first|exact this.symm|exact this
              exact PX
             ·obtain rfl:r0=false:=by have:=ky.out;simp[h1,h5]at this;first|exact this.symm|exact this
              have h1':(qi==1)=false:=by simpa using h1
              have h5':(qi==5)=false:=by simpa using h5
              go_wp2_with fail
              go_loop [3,8] (fun o i=>∃(k2:Nat) (b2:Bool),k2<=fa.length/\i= .int .i64 k2/\o= .bool b2/\Hid (b2=(false&& Vb (fun t:Int×Int=>decide (t.1=1)) fa k2))) (fun _ i=>fa.length - (intOf i).toNat)
              case atStart=>exact⟨0,false,by omega,rfl,rfl,zH (by rw[DR];rfl)⟩
              case round=>
               obtain⟨k2,b2,hk2,rfl,rfl,gJ⟩:=hrel;cases b2
               ·have uA:=zH (show Zz m (n:Int)=false by
                 rw[gD.out,ky.out];have h:=gJ.out;cases hu:Vb (fun t:Int×Int=>decide (t.1=1)) fa k2
                 ·rw[Ar hu];simp
                 ·first|(rw[hu]at h;simp at h;done)|rfl|simp)
                by_cases hlt2:k2<fa.length;all_goals
                 go_wp2_with fail
                 go_roundw;case rel=>first|exact⟨k+1,false,by omega,by go_num,rfl,zH (by rw[HS.out,uA.out];simp),HX⟩|exact⟨_,_,_,⟨k+1,false,by omega,by go_num,rfl,zH (by rw[HS.out,uA.out];simp),HX⟩,rfl,rfl,rfl⟩|exact⟨_,_,_,⟨k+1,false,by omega,by go_num,rfl,zH (by rw[HS.out,uA.out];simp),HX⟩,rfl⟩
                 case measure=>simp[intOf];omega
               ·by_cases hlt2:k2<fa.length
                ·obtain⟨Ye,Mx,yn,t0,t1⟩:=HA.out.row.at_ hlt2;have HS2:=zH (DT (p:=fun t:Int×Int=>decide (t.1=1)) hlt2);generalize fa[k2]=t at*
                 obtain⟨tk,tn⟩:=t;dsimp only at t0 t1 HS2;rw[Mx]at s0;by_cases htk:tk=1
                 ·subst htk;go_wp2_with fail
                  go_round
                  case rel=>exact⟨k2+1,true,by omega,by go_num,rfl,zH (by rw[HS2.out];have h:=gJ.out;rw[Xi rfl];first|(simp at h;done)|simpa using h)⟩
                  case measure=>simp[intOf];omega
                 ·have qmp:(tk==1)=false:=by simpa using htk
                  go_wp2_with fail
                  go_round
                  case rel=>exact⟨k2+1,false,by omega,by go_num,rfl,zH (by rw[HS2.out,Xf htk];simp)⟩
                  case measure=>simp[intOf];omega
                ·have sM:=zH (show Zz m (n:Int)=true by
                  rw[gD.out,ky.out,<-Et (p:=fun t:Int×Int=>decide (t.1=1)) (k:=k2) (by omega)];exact gJ.out.symm)
                 go_wp2_with fail
                 go_roundw;case rel=>first|exact⟨k+1,true,by omega,by go_num,rfl,zH (by rw[HS.out,sM.out,<-HP.out];rfl),HX⟩|exact⟨_,_,_,⟨k+1,true,by omega,by go_num,rfl,zH (by rw[HS.out,sM.out,<-HP.out];rfl),HX⟩,rfl,rfl,rfl⟩|exact⟨_,_,_,⟨k+1,true,by omega,by go_num,rfl,zH (by rw[HS.out,sM.out,<-HP.out];rfl),HX⟩,rfl⟩
                 case measure=>simp[intOf];omega
            ·have EN:=zH (mr R.out (show okB m=false by unfold okB;rw[Ar (p:=Zz m) (k:=k+1) (by rw[HS.out,q94 (by omega)];simp)];simp));go_wp2_with fail
             go_ret;exact⟨by rw[EN.out];rfl,zD HW HX⟩
           ·have av:=zH (show m.entries.all (Zz m)=true by rw[<-Et (k:=k) (by omega)];exact HP.out.symm);have EY:=zH (Ey R.out (by unfold okB;rw[G0.out,Qe.out,HML.out,av.out];rfl));go_wp2_with fail
            go_ret;exact⟨by rw[EY.out];rfl,zD HW HX⟩
