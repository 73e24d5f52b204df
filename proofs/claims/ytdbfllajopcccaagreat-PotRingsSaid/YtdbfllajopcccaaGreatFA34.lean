import Derived.Test.YtdbfllajopcccaaGreatFA30
import Derived.Test.YtdbfllajopcccaaGreatFA33
namespace Go.Proofs.YtdbfllajopcccaaGreat
set_option maxRecDepth 100000
set_option linter.unusedVariables false
set_option linter.unusedSimpArgs false
open Go.ChangeShapes Go.WideShapes Go.ChangeAt Go.RowKit
theorem q9d:(Tryz.prog.info? 52).map (fun i=>(i.zero,i.size,i.bytes))=some (some (.agg #[.bool false,.slice none 0 0]),2,32):=by kernel_rfl
theorem q82(n:Nat):(madeCells (Value.agg #[.bool false,.slice none 0 0]).cells (n*2)).toList=JU (List.replicate n ⟨false,none,0,[]⟩):=by
 refine List.ext_getElem? fun i=> ?_;by_cases hi:i<n*2
 ·have h1:(madeCells (Value.agg #[.bool false,.slice none 0 0]).cells (n*2)).toList[i]? =some ((#[Value.bool false,Value.slice none 0 0]:Array Value)[i % 2]!):=by
   unfold madeCells;rw[Array.getElem?_toList,Array.getElem?_map,Array.getElem?_range,if_pos hi];rfl
  rw[h1];have hr:(List.replicate n (⟨false,none,0,[]⟩:zy))[i / 2]? =some ⟨false,none,0,[]⟩:=by rw[List.getElem?_replicate,if_pos (by omega)]
  have h2:=Zs (f:=JV) (k:=2) (fun _=>rfl) (List.replicate n ⟨false,none,0,[]⟩) (i / 2) (i % 2) ⟨false,none,0,[]⟩ hr (Nat.mod_lt _ (by decide));have h3:i / 2*2+i % 2=i:=by omega
  rcases Nat.mod_two_eq_zero_or_one i with e|e
  ·rw[e]at h2;rw[e];rw[show i / 2*2+0=i by omega]at h2;exact h2.symm
  ·rw[e]at h2;rw[e];rw[show i / 2*2+1=i by omega]at h2;exact h2.symm
 ·rw[List.getElem?_eq_none (by rw[Array.length_toList,size_madeCells];omega),List.getElem?_eq_none (by rw[qnt,List.length_replicate];omega)]
theorem q28{c:Prop}[Decidable c]{s t:zu}(h1:s.seen=true)(h2:t.seen=true):(if c then s else t).seen=true:=by
 by_cases g:c
 ·rw[if_pos g];exact h1
 ·rw[if_neg g];exact h2
theorem q2c{m:za}{h:zl}{k n k' n':Int}{w0 w1 w:World}{r:Int×Int}(HI:Hid (zp w0 w0.heap.size h m))(HX:Hid (Below w0.heap.size w0 w1))(HW:Hid (Below w1.heap.size w1 w))(HN:Hid (m.classes.length≤1000))(HR:Hid (qX (zw m.classes) k n k' n'=r)):
  Calls Tryz.prog 76 #[.slice h.A0 m.classes.length h.c0,zO k n,zO k' n'] w fun e w'=>e= .returned (zO r.1 r.2)∧Below w.heap.size w w':=by
 have H:=qkt (zw m.classes) k n k' n' h.A0 h.c0 w.heap.size w (by rw[vZ];have:=HN.out;omega) (zn _) (Jv (HI.out.now (HX.out.trans (HW.out.mono HX.out.size))).classes.row);rw[HR.out,vZ]at H;exact H
theorem q2b{L M:List (Int×Int)}{A A':Option Addr}{c c' n n':Nat}{w:World}{r:Bool}(H1:Hid (zd zi 2 w w.heap.size A c L))(H2:Hid (zd zi 2 w w.heap.size A' c' M))(h1:L.length=n)(h2:M.length=n')(HR:Hid (decide (L=M)=r)):
  Calls Tryz.prog 41 #[.slice A n c,.slice A' n' c'] w fun e w'=>e= .returned (.bool r)∧Below w.heap.size w w':=by
 subst h1 h2;have H:=q37 L M A A' c c' w.heap.size w (zn _) H1.out H2.out;rw[HR.out]at H;exact H
theorem qc1{w:World}{g:Nat}{x y:Int}(hg:g<w.heap.size)(h0:w.cell? ⟨g,0,none⟩=some (.int .i64 x))(h1:w.cell? ⟨g,1,none⟩=some (.int .i64 y)):zz w w.heap.size (some ⟨g,0,none⟩) (zD [(x,y)]):=vl (vi hg h0 h1).row
theorem qag{w:World}{base g n:Nat}{xs:List Value}{T:TypeId}(h:w.ownsRow base T 2 (.slice (some ⟨g,0,none⟩) n n) n xs):zf w g xs T:=by
 obtain⟨h0,h1⟩:=h;rcases h1 with⟨h1,_⟩|⟨g',cap,cur,h1,_,hh,_,_,hs,hx⟩
 ·cases h1
 ·injection h1 with e1 e2 e3;simp at e1;subst e1 e3;have hc:cur.toList=xs:=by rw[←hx,List.take_of_length_le (by rw[Array.length_toList,hs];exact zn _)]
  unfold zf;rw[hh,←hc]
theorem qah{w:World}{g n:Nat}{X:List zy}(h:qx w g (⟨false,none,0,[]⟩::X)):qx (w.setCell ⟨g,0,none⟩ (.bool true)) g (⟨true,none,0,[]⟩::X):=by
 have hz:(w.setCell ⟨g,0,none⟩ (.bool true)).heap.size=w.heap.size:=by simp
 refine⟨h.blk.set 0 _,fun y hy=> ?_⟩;rcases List.mem_cons.mp hy with q|q
 ·rw[q];exact ji
 ·have hs:=h.row y (List.mem_cons_of_mem _ q);exact Yk hs (by rw[hz];exact zn _) (fun p hp=>World.cell?_setCell_far _ _ _ _ (fun e=>hp e.symm)) (fun j hj=>h.ty_apart hs hj)
theorem q9f{m:za}{f:Nat}{x:ze}{n:Nat}(hx:zm m (f:Int)=x)(hn:x.code.length=n+1):Qc m f ((⟨true,none,0,[]⟩::List.replicate n (⟨false,none,0,[]⟩:zy)).map zy.shp):=by
 refine⟨by rw[hx,hn];simp,rfl,fun i hi h0 hs=> ?_,fun s hs=> ?_⟩
 ·exfalso;obtain⟨j,rfl⟩:∃j,i=j+1:=⟨i - 1,by omega⟩
  have hj:j<n:=by simp at hi;exact hi
  rw[q09 (by simp;exact hj)]at hs;simp[zy.shp]at hs
 ·simp at hs;rcases hs with rfl|⟨_,rfl⟩<;>simp[zy.shp]
theorem qg8{m:za}{f:Int}{S:List zu}{pc:Nat}(h:(zv S pc).seen=false):q01 m f S pc:=fun q=>by rw[h]at q;cases q
set_option maxHeartbeats 12800000 in
theorem qez(m:za)(x:ze)(f:Nat)(h:zl)(w:World)(H:zp w w.heap.size h m)(hm:zP m)(hx:m.methods[f]? =some x):
  Calls Tryz.prog 43 #[zr h m,.int .i64 f] w (q5c m f w):=by
 obtain⟨tyi,hi,hz0,hz1,hz2⟩:=jg q9d;have HW:=zH (ko (w:=w) (h:=h) (m:=m));have HBX:=zH (qf w h m);have HZ:Hid (w.heap.size<(w.alloc (zq h m)).heap.size):=zH (by simp);have HI:=zH (H.now HW.out);have HM:=zH hm;have HG:=zH hx;have hle:=H.methods.le;have hcap:=H.methods.cap;have hcl:m.classes.length≤1000:=by have:=hm.fits.cl;omega
 have hxm:=hm.method (List.mem_of_getElem? hx);have hxl:x.code.length≤1000:=by have:=hxm.fits.cl;omega
 have hxp:=hxm.cp;have hfl:=(List.getElem?_eq_some_iff.mp hx).1;have hfe:=(List.getElem?_eq_some_iff.mp hx).2;obtain⟨ad,A4c,j4,ea,hab,hc4⟩:=qat HI.out hfl;rw[hfe]at hc4;obtain⟨A0,Ab,A2,A3,A4,k0,k1,k2,k3,k4⟩:=h;dsimp only at ea hle hcap;subst ea;have hcN:zm m (f:Int)=x:=by unfold zm;rw[Int.toNat_natCast,hx];rfl
 have HCN:=zH hcN;clear H hm hx hxm hfe hcN;go_enter Tryz.func43,Tryz.ntmps43;go_upto_region 1 with fail
 change Code.wp _ _ _ _ (w.alloc (zq ⟨A0,Ab,A2,some ad,A4,k0,k1,k2,k3,k4⟩ m));generalize w.alloc (zq ⟨A0,Ab,A2,some ad,A4,k0,k1,k2,k3,k4⟩ m)=w1 at*
 obtain⟨q0,q1,q2,q3,q4,q5,q6⟩:=HBX.out;have hie:((x.code.length:Int)==0)=false:=beq_eq_false_iff_ne.mpr (by omega);go_upto_region 3 with(at_make;refine wpList_make_full _ rfl _ _ 53 rfl w1.heap.size 52 tyi (.agg #[.bool false,.slice none 0 0]) 2 Tryz.underlying53 hi hz0 hz1 .i64 .i64 _ _ x.code.length rfl rfl rfl rfl (by rw[hz2];omega) (by unfold maxLen;omega) (zn _) ?_;intro w2 hown hgrow;have HO2:=zH hown;have HB2:=zH ((zb w1.heap.size w1).grown hgrow (zn _) (fun k hk=>by cases hk));clear hown hgrow)
 obtain⟨n1,hn1⟩:∃n,x.code.length=n+1:=⟨x.code.length - 1,by omega⟩
 have HL:=zH hn1;have HQ2:Hid (qx w2 w1.heap.size (⟨false,none,0,[]⟩::List.replicate n1 ⟨false,none,0,[]⟩)):=zH (by
  have h1:=qag HO2.out;rw[q82,hn1]at h1;exact⟨h1,fun y hy=>by
   rcases List.mem_cons.mp hy with q|q
   ·rw[q];exact ji
   ·rw[(List.mem_replicate.mp q).2];exact ji⟩)
 have HGR:=zH (q9f (n:=n1) HCN.out hn1);clear HO2 hn1 q0 q1 q2 q3 q4 q5 q6;have s0:=HQ2.out.seen_at (i:=0) (by simp)
 have f0:=HQ2.out.blk.free 0;have s0:w2.cell? ⟨w1.heap.size,0,none⟩=some (.bool false):=s0;go_upto_region 6 with fail
 have HQ3:=zH (qah (n:=n1) HQ2.out);have HB3:Hid (Below w1.heap.size w1 (w2.setCell ⟨w1.heap.size,0,none⟩ (.bool true))):=zH (HB2.out.setCell (p:=⟨w1.heap.size,0,none⟩) (zn _) _);clear s0 f0 HQ2 HB2;generalize w2.setCell ⟨w1.heap.size,0,none⟩ (.bool true)=w3 at*
 have HL3:Hid ((⟨true,none,0,[]⟩::List.replicate n1 (⟨false,none,0,[]⟩:zy)).length=x.code.length):=zH (by rw[HL.out];simp);generalize(⟨true,none,0,[]⟩::List.replicate n1 (⟨false,none,0,[]⟩:zy))=X3 at*
 have hwp:IntKind.i64.wrap ((x.code.length:Int) - 1)=(x.code.length:Int) - 1:=IntWalk.i64_in _ (by omega);go_wp2_with fail
 go_loopw [8] (fun i wr=>∃(k:Nat) (X:List zy),k≤4000∧i= .int .i64 k∧X.length=x.code.length∧Hid (qx wr w1.heap.size X)∧Hid (Qc m f (X.map zy.shp))∧Hid (Below w1.heap.size w1 wr)) (fun i _=>4000 - (intOf i).toNat)
 case atStart=>exact⟨0,X3,Nat.zero_le _,rfl,HL3.out,HQ3,HGR,HB3⟩
 case round=>
  clear HQ3 HGR HB3 HL3;obtain⟨k,X,hk,rfl,hXl,HO,HGR,HX⟩:=hrel;by_cases hk4:k<4000;rotate_left
  ·have hki:¬(k:Int)<4000:=by omega
   go_wp2_with fail
   go_ret2
   exact q1c (HW.out.trans (HX.out.mono (Nat.le_of_lt HZ.out)))
  have hki:(k:Int)<4000:=by omega
  go_wp2_with fail
  go_loopw [9,10] (fun tb i wr=>∃(p:Nat) (z:Int) (t:Bool) (X:List zy),p≤x.code.length∧i= .int .i64 z∧z=(p:Int) - 1∧tb= .bool t∧X.length=x.code.length∧Hid (qx wr w1.heap.size X)∧Hid (Qc m f (X.map zy.shp))∧Hid (Below w1.heap.size w1 wr)∧Hid (t=false→∀p',p≤p'→p'<x.code.length→q01 m f (X.map zy.shp) p')) (fun _ i _=>(intOf i+1).toNat)
  case atStart=>exact⟨x.code.length,_,false,X,zn _,rfl,rfl,rfl,hXl,HO,HGR,HX,zH (fun _ p h1 h2=>by omega)⟩
  case round=>
   clear HO HGR HX hXl;obtain⟨p,z,t,X,hp,rfl,hz,rfl,hXl,HO,HGR,HX,HT⟩:=hrel;rcases p with _|j
   ·obtain rfl:z= -1:=by omega
    clear hz;cases t
    ·have hfd:jF m f (X.map zy.shp):=⟨HGR.out,fun pc hpc=>HT.out rfl pc (Nat.zero_le _) (by rw[List.length_map]at hpc;omega)⟩
     have HFD:=zH hfd;clear hfd;go_wp2_with fail
     go_ret2
     exact⟨true,_,_,X.map zy.shp,by rw[List.length_map,hXl];rfl,HW.out.trans (HX.out.mono (Nat.le_of_lt HZ.out)),fun _=>⟨_,X,rfl,rfl,by rw[List.length_map,hXl],Nat.le_of_lt HZ.out,HO.out,HFD.out⟩⟩
    ·go_wp2_with fail
     go_roundw;case rel=>exact⟨k+1,X,by omega,by go_num,hXl,HO,HGR,HX⟩
     case measure=>simp[intOf];omega
   ·obtain rfl:z=(j:Int):=by omega
    clear hz;have hjX:j<X.length:=by omega
    have hjl:j<x.code.length:=by omega
    have c0:=HO.out.seen_at hjX;have c1:=HO.out.stack_at hjX;have hjn:zv (X.map zy.shp) (j:Int)=X[j].shp:=q09 hjX;have HSL:=zH (HO.out.row _ (List.getElem_mem hjX));have hsm:X[j].stack.length≤8:=HGR.out.small X[j].shp (List.mem_map.mpr ⟨_,List.getElem_mem hjX,rfl⟩);have hwq:IntKind.i64.wrap ((j:Int) - 1)=(j:Int) - 1:=IntWalk.i64_in _ (by omega);have HJN:=zH hjn;clear hjn;obtain⟨y,hy⟩:∃y,X[j]=y:=⟨_,rfl⟩
    rw[hy]at c0 c1 HSL hsm HJN;clear hy;by_cases hse:y.seen=true;rotate_left
    ·have hse':y.seen=false:=by simpa using hse
     have HT2:Hid (t=false→∀p',j≤p'→p'<x.code.length→q01 m f (X.map zy.shp) p'):=zH (fun g p' h1 h2=>by
      rcases Nat.lt_or_ge j p' with q|q
      ·exact HT.out g p' q h2
      ·obtain rfl:p'=j:=by omega
       exact qg8 (by rw[HJN.out];exact hse'))
     go_wp2_with fail
     go_roundw;case rel=>exact⟨j,_,t,X,by omega,rfl,rfl,rfl,hXl,HO,HGR,HX,HT2⟩
     case measure=>(simp[intOf];try omega)
    have HSE:=zH hse;obtain⟨⟨L,NL,er⟩,hrs⟩:∃r,zK m (f:Int) (j:Int) y.stack=r:=⟨_,rfl⟩
    have HRS:=zH hrs;have HXD:Hid (Below w1.heap.size w1 wr.drew):=zH HX.out.drew;have HSD:=zH (q34 zi.keeps HSL.out);have HKA:Hid (∀W,Below w1.heap.size w1 W→Below wr.heap.size wr W→(fun w'=>w'.cell? ⟨w.heap.size,0,none⟩=some (.slice A0 m.classes.length k0)∧w'.cell? ⟨w.heap.size,1,none⟩=some (.slice Ab m.statics.length k1)∧w'.cell? ⟨w.heap.size,2,none⟩=some (.slice A2 m.ints.length k2)∧w'.cell? ⟨w.heap.size,3,none⟩=some (.slice (some ad) m.methods.length k3)∧w'.cell? ⟨w.heap.size,4,none⟩=some (.slice A4 m.entries.length k4)∧w'.cell? ⟨w.heap.size,5,none⟩=some (.int .i64 m.stack)∧w'.cell? ⟨w.heap.size,6,none⟩=some (.int .i64 m.heap)∧w'.cell? ⟨w1.heap.size,j*2+1,none⟩=some (.slice y.A y.stack.length y.c)) W):=zH (fun W hW hV=>by
     obtain⟨d0,d1,d2,d3,d4,d5,d6⟩:=HBX.out.keep hW HZ.out;exact⟨d0,d1,d2,d3,d4,d5,d6,(hV.cell (p:=⟨w1.heap.size,j*2+1,none⟩) HO.out.blk.lt).trans c1⟩)
    have HVD:Hid (Below wr.heap.size wr wr.drew):=zH (zb _ _).drew;clear hrs;go_wp2_with fail
    go_region_held3 (fun w'=>w'.cell? ⟨w.heap.size,0,none⟩=some (.slice A0 m.classes.length k0)∧w'.cell? ⟨w.heap.size,1,none⟩=some (.slice Ab m.statics.length k1)∧w'.cell? ⟨w.heap.size,2,none⟩=some (.slice A2 m.ints.length k2)∧w'.cell? ⟨w.heap.size,3,none⟩=some (.slice (some ad) m.methods.length k3)∧w'.cell? ⟨w.heap.size,4,none⟩=some (.slice A4 m.entries.length k4)∧w'.cell? ⟨w.heap.size,5,none⟩=some (.int .i64 m.stack)∧w'.cell? ⟨w.heap.size,6,none⟩=some (.int .i64 m.heap)∧w'.cell? ⟨w1.heap.size,j*2+1,none⟩=some (.slice y.A y.stack.length y.c)) (first|exact HKA.out _ HXD.out HVD.out|exact HKA.out _ HX6.out HV6.out) (first|(go_at_call 16;(with_reducible refine(q5l HI HXD HM (zH rfl) HSD (Nat.le_trans hsm (by decide)) HRS).mono ?_);rintro e w6 ⟨A7,c7,A8,c8,rfl,hs7,hs8,hb⟩;have H7:=zH hs7;have H8:=zH hs8;have HX6:=zj HXD hb;have HV6:=zj HVD hb;clear hs7 hs8 hb))
    rename_i hHeld;clear hHeld c0 c1;by_cases her:er=0;rotate_left
    ·have hne:(er !=0)=true:=by simpa using her
     go_wp2_with fail
     go_ret2
     exact q1c (HW.out.trans (HX6.out.mono (Nat.le_of_lt HZ.out)))
    subst her;have HO6:=zH (HO.out.keep HV6.out);have hm1:=H8.out.le;have hm2:=H8.out.cap;have hm3:=H7.out.le;have hm4:=H7.out.cap;have HFAC:Hid (NL=ZR m f j∧L.length≤8∧∀n ∈NL,0≤n∧n<(x.code.length:Int)):=zH (by
     have hjx:j<x.code.length:=by omega
     obtain⟨⟨op,a,bb⟩,hi⟩:∃i,x.code[j]? =some i:=⟨_,List.getElem?_eq_getElem hjx⟩
     have hxm:=HM.out.method (List.mem_of_getElem? HG.out);have him:=List.mem_of_getElem? hi;have e1:=Jw (st:=y.stack) HG.out hi;rw[HRS.out]at e1;have h1:=Vv (m:=m) (st:=y.stack) (F:=0) (hxm.fits.ct _ him) (hxm.co _ him) (by rw[←e1]);have h2:=q7w (m:=m) (x:=x) (pc:=(j:Int)) (op:=op) (a:=a) (b:=bb) (st:=y.stack) (by rw[←e1]);rw[←e1]at h1 h2;exact⟨by rw[qaj HG.out hi];exact h2.1,h2.2,h1⟩)
    have hL8:=HFAC.out.2.1;go_wp2_with fail
    have HJS:Hid ((zv (X.map zy.shp) (j:Int)).seen=true):=zH (by rw[HJN.out];exact HSE.out);have HRJ:Hid (zK m (f:Int) (j:Int) (zv (X.map zy.shp) (j:Int)).stack=⟨L,NL,0⟩):=zH (by rw[HJN.out];exact HRS.out);go_loopw [9,14] (fun tb i wr=>∃(q:Nat) (t':Bool) (X':List zy),q≤NL.length∧i= .int .i64 q∧tb= .bool t'∧X'.length=x.code.length∧Hid (qx wr w1.heap.size X')∧Hid (Qc m f (X'.map zy.shp))∧Hid (Below w1.heap.size w1 wr)∧Hid (zd zi 2 wr wr.heap.size A7 c7 L)∧Hid (zd zo 1 wr wr.heap.size A8 c8 NL)∧Hid ((zv (X'.map zy.shp) (j:Int)).seen=true)∧
      Hid (t'=false→t=false∧X'=X∧∀n ∈NL.take q,(zv (X.map zy.shp) n).seen=true∧L.length=(zv (X.map zy.shp) n).stack.length)) (fun _ i _=>NL.length - (intOf i).toNat)
    case atStart=>exact⟨0,t,X,Nat.zero_le _,rfl,rfl,hXl,HO6,HGR,HX6,H7,H8,HJS,zH (fun g=>⟨g,rfl,fun n hn=>by simp at hn⟩)⟩
    case round=>
     clear HO6 HX6 H7 H8 HJS HXD HVD HV6 HX HO HKA;obtain⟨q,t',X',hq,rfl,rfl,hXl',HO,HGR',HX,H7,H8,HJS,HTT⟩:=hrel;by_cases hql:q<NL.length;rotate_left
     ·have HT3:Hid (t'=false→∀p',j≤p'→p'<x.code.length→q01 m f (X'.map zy.shp) p'):=zH (fun g p' h1 h2=>by
       obtain⟨g1,g2,g3⟩:=HTT.out g;subst g2;rcases Nat.lt_or_ge j p' with z|z
       ·exact HT.out g1 p' z h2
       ·obtain rfl:p'=j:=by omega
        rw[List.take_of_length_le (by omega)]at g3;intro _;rw[HRJ.out];exact⟨rfl,g3⟩)
      go_wp2_with fail
      go_roundw;case rel=>exact⟨j,_,t',X',by omega,rfl,rfl,rfl,hXl',HO,HGR',HX,HT3⟩
      case measure=>(simp[intOf];try omega)
     obtain⟨adN,eA8,habN,v0⟩:=H8.out.row.at_ hql;have v0:wr.cell? (adN.add q)=some (.int .i64 NL[q]):=by have:=v0;rw[Nat.mul_one]at this;exact this
     have HEA8:=zH eA8;obtain⟨nr0,nr1⟩:=HFAC.out.2.2 _ (List.getElem_mem hql);have HNX:Hid (NL[q] ∈ZR m f j):=zH (by have:=List.getElem_mem hql;have e:=HFAC.out.1;rw[←e];exact this);have HTQ:Hid (t'=false→(zv (X'.map zy.shp) NL[q]).seen=true→L.length=(zv (X'.map zy.shp) NL[q]).stack.length→t=false∧X'=X∧∀n ∈NL.take (q+1),(zv (X.map zy.shp) n).seen=true∧L.length=(zv (X.map zy.shp) n).stack.length):=zH (fun g h1 h2=>by
      obtain⟨g1,g2,g3⟩:=HTT.out g;subst g2;refine⟨g1,rfl,fun n hn=> ?_⟩;rw[List.take_succ_eq_append_getElem hql]at hn;rcases List.mem_append.mp hn with z|z
      ·exact g3 n z
      ·rw[List.mem_singleton.mp z];exact⟨h1,h2⟩)
     generalize NL[q]=nn at*
     obtain⟨tg,rfl⟩:=Int.eq_ofNat_of_zero_le nr0;have htX:tg<X'.length:=by omega
     have hjX':j<X'.length:=by omega
     have c0:=HO.out.seen_at htX;have c1:=HO.out.stack_at htX;have htn:zv (X'.map zy.shp) (tg:Int)=X'[tg].shp:=q09 htX;have HZL:=zH (HO.out.row _ (List.getElem_mem htX));have hsm2:X'[tg].stack.length≤8:=HGR'.out.small X'[tg].shp (List.mem_map.mpr ⟨_,List.getElem_mem htX,rfl⟩);obtain⟨⟨sn,Ay,cy,sty⟩,hy2⟩:∃y,X'[tg]=y:=⟨_,rfl⟩
     rw[hy2]at c0 c1 htn HZL hsm2;dsimp only[zy.shp]at c0 c1 htn HZL hsm2;have HTN:=zH htn;have hyX:=zH hy2;clear hy2 htn;have fz0:=HO.out.blk.free (tg*2);have fz1:=HO.out.blk.free (tg*2+1);subst eA8;by_cases hs2:sn=true;rotate_left
     ·have hs2':sn=false:=by simpa using hs2
      have HPUT:Hid (qx (qR wr w1.heap.size tg ⟨true,A7,c7,L⟩) w1.heap.size (X'.set tg ⟨true,A7,c7,L⟩)):=zH (HO.out.put htX H7.out);have HGP:Hid (Qc m f ((X'.set tg ⟨true,A7,c7,L⟩).map zy.shp)):=zH (by rw[List.map_set];exact HGR'.out.put (L:=L) (by rw[List.length_map];exact htX) (by rw[List.length_map];exact hjX') HJS.out HNX.out (by omega));have HSJ:Hid ((zv ((X'.set tg ⟨true,A7,c7,L⟩).map zy.shp) (j:Int)).seen=true):=zH (by rw[List.map_set,Ym (by rw[List.length_map];exact htX)];exact q28 rfl HJS.out);have HBP:Hid (Below w1.heap.size w1 (qR wr w1.heap.size tg ⟨true,A7,c7,L⟩)):=zH ((HX.out.setCell (p:=⟨w1.heap.size,tg*2,none⟩) (zn _) _).setCell (p:=⟨w1.heap.size,tg*2+1,none⟩) (zn _) _);have HZP:(qR wr w1.heap.size tg ⟨true,A7,c7,L⟩).heap.size=wr.heap.size:=by simp[qR]
      have H7P:Hid (zd zi 2 (qR wr w1.heap.size tg ⟨true,A7,c7,L⟩) (qR wr w1.heap.size tg ⟨true,A7,c7,L⟩).heap.size A7 c7 L):=zH (Yk H7.out (by rw[HZP];exact zn _) (QT _ _ _ _) (fun i hi=>HO.out.ty_apart H7.out hi));have H8P:Hid (zd zo 1 (qR wr w1.heap.size tg ⟨true,A7,c7,L⟩) (qR wr w1.heap.size tg ⟨true,A7,c7,L⟩).heap.size (some adN) c8 NL):=zH (q20 H8.out (by rw[HZP];exact zn _) (QT _ _ _ _) (fun i hi=>HO.out.int_apart H8.out hi));clear HZP;go_wp2_with fail
      go_roundw;case rel=>exact⟨q+1,true,X'.set tg ⟨true,A7,c7,L⟩,by omega,by go_num,rfl,by rw[List.length_set];exact hXl',HPUT,HGP,HBP,H7P,H8P,HSJ,zH (fun g=>by cases g)⟩
      case measure=>(simp[intOf];try omega)
     have hsz:=HX.out.size;by_cases hll:sty.length=L.length;rotate_left
     ·have hnl:((sty.length:Int) !=(L.length:Int))=true:=bne_iff_ne.mpr (by omega);go_wp2_with fail
      go_ret2
      exact q1c (HW.out.trans (HX.out.mono (Nat.le_of_lt HZ.out)))
     have hnl:((sty.length:Int) !=(L.length:Int))=false:=bne_eq_false_iff_eq.mpr (by omega);have hl1:=H7.out.le;have hl2:=H7.out.cap;obtain⟨ti,hti,ht0,ht1,ht2⟩:=jg kK;go_wp2_with fail
     clear c0 c1 fz0 fz1 v0;obtain⟨wo,hwo⟩:∃W,W=wr:=⟨_,rfl⟩
     subst hwo;go_loopw [16,17] (fun v i wr=>∃(jj:Nat) (BT:List (Int×Int)),jj≤L.length∧i= .int .i64 jj∧BT.length=jj∧Hid (wr.ownsRow wo.heap.size 39 2 v jj (zD BT))∧Hid (Below wo.heap.size wo wr)) (fun _ i _=>L.length - (intOf i).toNat)
     case atStart=>exact⟨0,[],Nat.zero_le _,rfl,rfl,zH (ka wo _ 2),zH ((zb _ _).alloc (zn _) _)⟩
     case round=>
      obtain⟨jj,BT,hjj,rfl,hBT,HOB,HV⟩:=hrel;have hszi:=HV.out.size;have hX1:=HX.out.trans (HV.out.mono hsz);have HXI:=zH hX1;by_cases hjl2:jj<L.length
      ·have hjs:jj<sty.length:=by omega
       obtain⟨ad5,e5,hab5,s0,s1⟩:=(js zi.keeps HZL.out HV.out).row.at_ hjs;obtain⟨ad7,e7,hab7,t0,t1⟩:=(js zi.keeps H7.out HV.out).row.at_ hjl2;have d1:=(HO.out.keep HV.out).stack_at htX;rw[hyX.out]at d1;dsimp only at d1;subst e5 e7;obtain⟨u,hu⟩:∃u,sty[jj]=u:=⟨_,rfl⟩
       obtain⟨v,hv⟩:∃v,L[jj]=v:=⟨_,rfl⟩
       rw[hu]at s0 s1;rw[hv]at t0 t1;clear hu hv;have HGL:=zH ((HO.out.keep HV.out).blk.lt);have HKJ:Hid (∀W,Below wr.heap.size wr W→(fun w'=>w'.cell? ⟨w.heap.size,0,none⟩=some (.slice A0 m.classes.length k0)∧w'.cell? ⟨w1.heap.size,tg*2+1,none⟩=some (.slice (some ad5) sty.length cy)∧w'.cell? (ad5.add (jj*2))=some (.int .i64 u.1)∧w'.cell? (zc (ad5.add (jj*2)) 1)=some (.int .i64 u.2)∧w'.cell? (ad7.add (jj*2))=some (.int .i64 v.1)∧w'.cell? (zc (ad7.add (jj*2)) 1)=some (.int .i64 v.2)) W):=zH (fun W hW=>by
        obtain⟨d0,_⟩:=HBX.out.keep (HXI.out.trans (hW.mono HXI.out.size)) HZ.out;exact⟨d0,(hW.cell (p:=⟨w1.heap.size,tg*2+1,none⟩) HGL.out).trans d1,(hW.cell (p:=ad5.add (jj*2)) (by rw[zt];exact hab5)).trans s0,(hW.cell (p:=zc (ad5.add (jj*2)) 1) (by show(ad5.add _).block<_;rw[zt];exact hab5)).trans s1,
         (hW.cell (p:=ad7.add (jj*2)) (by rw[zt];exact hab7)).trans t0,(hW.cell (p:=zc (ad7.add (jj*2)) 1) (by show(ad7.add _).block<_;rw[zt];exact hab7)).trans t1⟩)
       clear s0 s1 t0 t1 d1;obtain⟨⟨jk,jn⟩,hjr⟩:∃r,qX (zw m.classes) u.1 u.2 v.1 v.2=r:=⟨_,rfl⟩
       have HJR:=zH hjr;clear hjr hX1;have HWD:Hid (Below wr.heap.size wr wr.drew):=zH (zb _ _).drew;have HWA:Hid (Below wr.heap.size wr (wr.alloc (.cells #[.int .i64 0,.int .i64 0] 39)).drew):=zH ((zb _ _).alloc (zn _) _).drew;go_wp2_with fail
       go_region_held3 (fun w'=>w'.cell? ⟨w.heap.size,0,none⟩=some (.slice A0 m.classes.length k0)∧w'.cell? ⟨w1.heap.size,tg*2+1,none⟩=some (.slice (some ad5) sty.length cy)∧w'.cell? (ad5.add (jj*2))=some (.int .i64 u.1)∧w'.cell? (zc (ad5.add (jj*2)) 1)=some (.int .i64 u.2)∧w'.cell? (ad7.add (jj*2))=some (.int .i64 v.1)∧w'.cell? (zc (ad7.add (jj*2)) 1)=some (.int .i64 v.2)) (first|exact HKJ.out _ HWD.out|exact HKJ.out _ HWA.out|exact HKJ.out _ HW9.out|exact HKJ.out _ (HW9.out.alloc HW9.out.size _)|exact HKJ.out _ ((HW9.out.setCell (p:=⟨wr.heap.size,0,none⟩) (zn _) _).setCell (p:=⟨wr.heap.size,1,none⟩) (zn _) _)) (first
        |(go_at_call 76;(first|((with_reducible refine(q2c HI HXI HWD (zH hcl) HJR).mono ?_);have HYW:=HWD)|((with_reducible refine(q2c HI HXI HWA (zH hcl) HJR).mono ?_);have HYW:=HWA));rintro e w9 ⟨rfl,hb⟩;have HW9:=zj HYW hb;(first|(have hq:=zf.keep (show zf (wr.alloc (.cells #[.int .i64 0,.int .i64 0] 39)).drew wr.heap.size [.int .i64 0,.int .i64 0] 39 from zf.new wr _ _) hb (by simp))|(have hq:=trivial));(first|(have f0:=hq.free 0;have f1:=hq.free 1;have r0:=hq.cells 0 _ rfl;have r1:=hq.cells 1 _ rfl)|skip);have HQ9:=zH hq;clear hq hb))
       all_goals
        first
         |(have HQ5:Hid (zf ((w9.setCell ⟨wr.heap.size,0,none⟩ (.int .i64 jk)).setCell ⟨wr.heap.size,1,none⟩ (.int .i64 jn)) wr.heap.size [.int .i64 jk,.int .i64 jn] 39):=zH ((HQ9.out.set 0 (.int .i64 jk)).set 1 (.int .i64 jn));have HW5:Hid (Below wr.heap.size wr ((w9.setCell ⟨wr.heap.size,0,none⟩ (.int .i64 jk)).setCell ⟨wr.heap.size,1,none⟩ (.int .i64 jn))):=zH ((HW9.out.setCell (p:=⟨wr.heap.size,0,none⟩) (zn _) (.int .i64 jk)).setCell (p:=⟨wr.heap.size,1,none⟩) (zn _) (.int .i64 jn));generalize((w9.setCell ⟨wr.heap.size,0,none⟩ (.int .i64 jk)).setCell ⟨wr.heap.size,1,none⟩ (.int .i64 jn))=w5 at*)
         |(have HQ5:=zH (zf.new w9 [.int .i64 jk,.int .i64 jn] 39);have HW5:Hid (Below wr.heap.size wr (w9.alloc (.cells #[.int .i64 jk,.int .i64 jn] 39))):=zH (HW9.out.alloc HW9.out.size _);change Exit.then _ _ _ _ (w9.alloc (.cells #[.int .i64 jk,.int .i64 jn] 39));generalize w9.alloc (.cells #[.int .i64 jk,.int .i64 jn] 39)=w5 at*)
        have hz5:=HW5.out.size;have b0:=HQ5.out.cells 0 _ rfl;have b1:=HQ5.out.cells 1 _ rfl;have HO5:=zH (qG HOB.out HW5.out (qi HOB.out));have HV5:=zH (HV.out.trans (HW5.out.mono hszi));have hzv:=HV5.out.size;by_cases hk0:jk=0
        ·have hke:(jk==0)=true:=beq_iff_eq.mpr hk0;go_wp2_with fail
         go_ret2
         exact q1c (HW.out.trans ((HXI.out.trans (HW5.out.mono HXI.out.size)).mono (Nat.le_of_lt HZ.out)))
        ·have hke:(jk==0)=false:=beq_eq_false_iff_ne.mpr hk0;go_wp2_with(at_builtin;refine ja rfl _ _ 23 rfl wo.heap.size 39 ti (.agg #[.int .i64 0,.int .i64 0]) 2 16 Tryz.underlying23 hti ht0 ht1 ht2 rfl (by decide) _ jj (zD BT) rfl (HO5.out.alloc _) (some ⟨w5.heap.size,0,none⟩) 1 1 _ (zD [(jk,jn)]) rfl rfl (qc1 (by simp) (by go_simp) (by go_simp)) (jt _) (by unfold maxLen;omega) (by omega) (by simp;omega) ?_;intro v6 w6 hown hgrow;have HX6:=zH (qA (HV5.out.alloc hzv _) (HO5.out.alloc _) (by simp;omega) hgrow);have HO6:=zH hown;clear hown hgrow)
         go_roundw;case rel=>exact⟨jj+1,BT++[(jk,jn)],by omega,by go_num,by rw[List.length_append,hBT];rfl,zH (by show World.ownsRow _ _ _ _ _ _ ((BT++[(jk,jn)]).flatMap tyC);rw[List.flatMap_append];exact HO6.out),HX6⟩
         case measure=>(simp[intOf];try omega)
      ·have hje:jj=L.length:=by omega
       subst hBT;have HOX:=zH (HO.out.keep HV.out);have H7X:=zH (js zi.keeps H7.out HV.out);have H8X:=zH (js zo.keeps H8.out HV.out);have HZX:=zH (js zi.keeps HZL.out HV.out);obtain⟨Ab2,cb,rfl,hsb,_⟩:=vy HOB.out;have HSB:=zH hsb;have c1:=HOX.out.stack_at htX;rw[hyX.out]at c1;dsimp only at c1;obtain⟨r,hr⟩:∃r,decide (BT=sty)=r:=⟨_,rfl⟩
       have HR:=zH hr;clear hr hsb hX1;cases r
       ·go_upto_region 35 with(go_at_call 41;(with_reducible refine(q2b HSB HZX hje hll HR).mono ?_);rintro e w9 ⟨rfl,hb⟩;have HB9:=zH hb;clear hb)
        clear HO H7 H8 HX;have HO:=zH (HOX.out.keep HB9.out);have H7:=zH (js zi.keeps H7X.out HB9.out);have H8:=zH (js zo.keeps H8X.out HB9.out);have HX:=zH (HXI.out.trans (HB9.out.mono HXI.out.size));have HSB9:=zH (js zi.keeps HSB.out HB9.out);have fz0:=HO.out.blk.free (tg*2);have fz1:=HO.out.blk.free (tg*2+1);have c0:=HO.out.seen_at htX;have c1:=HO.out.stack_at htX;have HPUT:Hid (qx (qR w9 w1.heap.size tg ⟨true,Ab2,cb,BT⟩) w1.heap.size (X'.set tg ⟨true,Ab2,cb,BT⟩)):=zH (HO.out.put htX HSB9.out);have HGP:Hid (Qc m f ((X'.set tg ⟨true,Ab2,cb,BT⟩).map zy.shp)):=zH (by rw[List.map_set];exact HGR'.out.put (L:=BT) (by rw[List.length_map];exact htX) (by rw[List.length_map];exact hjX') HJS.out HNX.out (by omega));have HSJ:Hid ((zv ((X'.set tg ⟨true,Ab2,cb,BT⟩).map zy.shp) (j:Int)).seen=true):=zH (by rw[List.map_set,Ym (by rw[List.length_map];exact htX)];exact q28 rfl HJS.out);have HBP:Hid (Below w1.heap.size w1 (qR w9 w1.heap.size tg ⟨true,Ab2,cb,BT⟩)):=zH ((HX.out.setCell (p:=⟨w1.heap.size,tg*2,none⟩) (zn _) _).setCell (p:=⟨w1.heap.size,tg*2+1,none⟩) (zn _) _);have HZP:(qR w9 w1.heap.size tg ⟨true,Ab2,cb,BT⟩).heap.size=w9.heap.size:=by simp[qR]
        have H7P:Hid (zd zi 2 (qR w9 w1.heap.size tg ⟨true,Ab2,cb,BT⟩) (qR w9 w1.heap.size tg ⟨true,Ab2,cb,BT⟩).heap.size A7 c7 L):=zH (Yk H7.out (by rw[HZP];exact zn _) (QT _ _ _ _) (fun i hi=>HO.out.ty_apart H7.out hi));have H8P:Hid (zd zo 1 (qR w9 w1.heap.size tg ⟨true,Ab2,cb,BT⟩) (qR w9 w1.heap.size tg ⟨true,Ab2,cb,BT⟩).heap.size (some adN) c8 NL):=zH (q20 H8.out (by rw[HZP];exact zn _) (QT _ _ _ _) (fun i hi=>HO.out.int_apart H8.out hi));clear HZP;go_wp2_with fail
        have HPUT:Hid (qx ((w9.setCell ⟨w1.heap.size,tg*2,none⟩ (.bool true)).setCell ⟨w1.heap.size,tg*2+1,none⟩ (.slice Ab2 L.length cb)) w1.heap.size (X'.set tg ⟨true,Ab2,cb,BT⟩)):=zH (by rw[←hje];exact HPUT.out);have HBP:Hid (Below w1.heap.size w1 ((w9.setCell ⟨w1.heap.size,tg*2,none⟩ (.bool true)).setCell ⟨w1.heap.size,tg*2+1,none⟩ (.slice Ab2 L.length cb))):=zH (by rw[←hje];exact HBP.out);have H7P:Hid (zd zi 2 ((w9.setCell ⟨w1.heap.size,tg*2,none⟩ (.bool true)).setCell ⟨w1.heap.size,tg*2+1,none⟩ (.slice Ab2 L.length cb)) ((w9.setCell ⟨w1.heap.size,tg*2,none⟩ (.bool true)).setCell ⟨w1.heap.size,tg*2+1,none⟩ (.slice Ab2 L.length cb)).heap.size A7 c7 L):=zH (by rw[←hje];exact H7P.out);have H8P:Hid (zd zo 1 ((w9.setCell ⟨w1.heap.size,tg*2,none⟩ (.bool true)).setCell ⟨w1.heap.size,tg*2+1,none⟩ (.slice Ab2 L.length cb)) ((w9.setCell ⟨w1.heap.size,tg*2,none⟩ (.bool true)).setCell ⟨w1.heap.size,tg*2+1,none⟩ (.slice Ab2 L.length cb)).heap.size (some adN) c8 NL):=zH (by rw[←hje];exact H8P.out);go_roundw;case rel=>exact⟨q+1,true,X'.set tg ⟨true,Ab2,cb,BT⟩,by omega,by go_num,rfl,by rw[List.length_set];exact hXl',HPUT,HGP,HBP,H7P,H8P,HSJ,zH (fun g=>by cases g)⟩
        case measure=>(simp[intOf];try omega)
       ·have HTF:Hid (t'=false→t=false∧X'=X∧∀n ∈NL.take (q+1),(zv (X.map zy.shp) n).seen=true∧L.length=(zv (X.map zy.shp) n).stack.length):=zH (fun g=>HTQ.out g (by rw[HTN.out];exact hs2) (by rw[HTN.out];exact hll.symm));go_wp2_with(go_at_call 41;(with_reducible refine(q2b HSB HZX hje hll HR).mono ?_);rintro e w9 ⟨rfl,hb⟩;have HB9:=zH hb;clear hb)
        have HO9:=zH (HOX.out.keep HB9.out);have H79:=zH (js zi.keeps H7X.out HB9.out);have H89:=zH (js zo.keeps H8X.out HB9.out);have HX9:=zH (HXI.out.trans (HB9.out.mono HXI.out.size));go_roundw;case rel=>exact⟨q+1,t',X',by omega,by go_num,rfl,hXl',HO9,HGR',HX9,H79,H89,HJS,HTF⟩
        case measure=>(simp[intOf];try omega)
def Qf(XS:List (Nat×List zy)):List Value:=XS.map fun p=> .slice (some ⟨p.1,0,none⟩) p.2.length p.2.length
structure kU(w:World)(v:Value)(XS:List (Nat×List zy)):Prop where
 outs:∀p ∈XS,qx w p.1 p.2
 apart:∀p ∈XS,¬v.ownBlock=some p.1
 diff:(XS.map Prod.fst).Nodup
 dry:Dry w v
theorem kU.nil(w:World)(T:TypeId):kU (w.alloc (.cells #[] T)) (.slice (some ⟨w.heap.size,0,none⟩) 0 0) []:=
 ⟨fun _ h=>by simp at h,fun _ h=>by simp at h,by simp,qmw w T⟩
theorem kU.below{w w':World}{v:Value}{XS:List (Nat×List zy)}(h:kU w v XS)(hv:∀g,v.ownBlock=some g→g<w.heap.size)(hb:Below w.heap.size w w'):kU w' v XS:=
 ⟨fun p hp=>(h.outs p hp).keep hb,h.apart,h.diff,h.dry.below hv hb⟩
theorem qx.grown{w w3:World}{v:Value}{g:Nat}{X:List zy}(h:qx w g X)(hd:Dry w v)(ha:¬v.ownBlock=some g)(hg:w.grownBy w3 v.ownBlock):qx w3 g X:=by
 have hlt:=h.blk.lt;refine⟨?_,fun x hx=> ?_⟩
 ·have hb:=h.blk;unfold zf at hb⊢
  rw[hg.block g hlt (fun e=>ha e.symm)];exact hb
 ·have hs:=h.row x hx;refine⟨hs.le,hs.cap,fun i t hi=> ?_⟩;obtain⟨ad,e,hb,h0,h1⟩:=hs.row i t hi;have hn:¬some ad.block=v.ownBlock:=fun q=>hd ad.block q.symm (ad.add (i*2)) (zt _ _) _ _ h0;have hk:∀q:Addr,q.block=ad.block→w3.cell? q=w.cell? q:=fun q hq=>World.cell?_of_block (by rw[hq];exact hg.block _ hb hn);exact⟨ad,e,Nat.lt_of_lt_of_le hb hg.size,(hk _ (zt _ _)).trans h0,(hk _ (by show(ad.add _).block=_;rw[zt])).trans h1⟩
theorem kU.snoc{w w3:World}{v:Value}{XS:List (Nat×List zy)}{g g9 n k:Nat}{X:List zy}(h:kU w v XS)(hX:qx w g X)(hg0:∀p ∈XS,p.1<g)(hgv:∀b,v.ownBlock=some b→b<g)
  (hg:w.grownBy w3 v.ownBlock) (hor:v.ownBlock=some g9∨w.heap.size≤g9) (hd:Dry w3 (.slice (some ⟨g9,0,none⟩) n k)):kU w3 (.slice (some ⟨g9,0,none⟩) n k) (XS++[(g,X)]):=by
 have hgn:¬v.ownBlock=some g:=fun e=>Nat.lt_irrefl _ (hgv g e);refine⟨fun p hp=> ?_,fun p hp e=> ?_,?_,hd⟩
 ·rcases List.mem_append.mp hp with q|q
  ·exact(h.outs p q).grown h.dry (h.apart p q) hg
  ·simp at q;subst q;exact hX.grown h.dry hgn hg
 ·simp[Value.ownBlock]at e;have hlt:p.1<w.heap.size:=by
   rcases List.mem_append.mp hp with q|q
   ·exact(h.outs p q).blk.lt
   ·simp at q;subst q;exact hX.blk.lt
  rcases hor with o|o
  ·rcases List.mem_append.mp hp with q|q
   ·exact h.apart p q (by rw[o,e])
   ·simp at q;subst q;exact hgn (by rw[o,e])
  ·omega
 ·rw[List.map_append,List.nodup_append];refine⟨h.diff,by simp,fun a ha b hb=> ?_⟩;simp at hb;subst hb;obtain⟨p,hp,rfl⟩:=List.mem_map.mp ha;have:=hg0 p hp;omega
def AllOut(m:za)(w:World)(e:Ending)(w':World):Prop:=∃(A:Option Addr) (n c:Nat) (b:Int),e= .returned (.tuple #[.slice A n c,.int .i64 b])∧Below w.heap.size w w'∧
 (b<0→∃XS,n=m.methods.length∧XS.length=n∧w'.ownsRow w.heap.size 53 1 (.slice A n c) n (Qf XS)∧kU w' (.slice A n c) XS∧(∀p ∈XS,w.heap.size≤p.1)∧∀(i:Nat) p,XS[i]? =some p→jF m (i:Int) (p.2.map zy.shp))
theorem q89:(Tryz.prog.info? 53).map (fun i=>(i.zero,i.size,i.bytes))=some (some (.slice none 0 0),1,24):=by kernel_rfl
theorem qgk{m:za}{x:ze}{f:Nat}{h:zl}{w0 w:World}(HI:Hid (zp w0 w0.heap.size h m))(HX:Hid (Below w0.heap.size w0 w))(HM:Hid (zP m))(HG:Hid (m.methods[f]? =some x)):
  Calls Tryz.prog 43 #[zr h m,.int .i64 f] w (q5c m f w):=qez m x f h w (HI.out.now HX.out) HM.out HG.out
set_option maxHeartbeats 3200000 in
theorem qo1(m:za)(h:zl)(w:World)(H:zp w w.heap.size h m)(hm:zP m)(hml:m.methods.length≤1000):
  Calls Tryz.prog 23 #[zr h m] w (AllOut m w):=by
 obtain⟨i0,hi,hz0,hz1,hz2⟩:=jg q89;have HW:=zH ((zb w.heap.size w).alloc (zn _) (zq h m));have HI:=zH (H.now HW.out);have HM:=zH hm;have HBX:=zH (qf w h m);have HZ:Hid (w.heap.size<(w.alloc (zq h m)).heap.size):=zH (by simp);clear H hm;go_enter Tryz.func23,Tryz.ntmps23;go_upto_region 1 with fail
 generalize w.alloc (zq h m)=w1 at*
 go_wp2_with fail
 go_loopw [4,5] (fun v i wr=>∃(k:Nat) (XS:List (Nat×List zy)),k≤m.methods.length∧i= .int .i64 k∧Hid (XS.length=k)∧Hid (wr.ownsRow w1.heap.size 53 1 v k (Qf XS))∧Hid (Below w1.heap.size w1 wr)∧Hid (kU wr v XS)∧Hid (∀p ∈XS,w1.heap.size≤p.1)∧Hid (∀(i:Nat) p,XS[i]? =some p→jF m (i:Int) (p.2.map zy.shp))) (fun _ i _=>m.methods.length - (intOf i).toNat)
 case atStart=>exact⟨0,[],by omega,rfl,zH rfl,zH (JB w1 _),zH ((zb _ _).alloc (zn _) _),zH (kU.nil w1 _),zH (fun p h=>by simp at h),zH (fun i p h=>by simp at h)⟩
 case round=>
  obtain⟨k,XS,hk,rfl,HL,HO,HX,HE,HP,HF⟩:=hrel;obtain⟨q0,q1,q2,q3,q4,q5,q6⟩:=HBX.out.keep HX.out HZ.out;have hsz:=HX.out.size;by_cases hlt:k<m.methods.length
  ·obtain⟨x,hx⟩:∃x,m.methods[k]? =some x:=⟨_,List.getElem?_eq_getElem hlt⟩
   have HG:=zH hx;clear hx;go_upto_region 6 with(go_at_call 43;(with_reducible refine(qgk HI HX HM HG).mono ?_);rintro e w4 ⟨ok,As,cs,S,rfl,hb,hgd⟩;have HO4:=zH (qG HO.out hb (qi HO.out));have HX4:=zj HX hb;have HE4:=zH (HE.out.below (qi HO.out) hb);have HGD:=zH hgd;have hsz4:=HX4.out.size;clear hb hgd)
   cases ok
   ·go_wp2_with fail
    go_ret2
    exact⟨none,0,0,k,rfl,HW.out.trans (HX4.out.mono HW.out.size),fun q=>by omega⟩
   ·obtain⟨g,X,hA,hS,hc,hgb,hout,hfound⟩:=HGD.out rfl;clear HGD;subst hA hS hc;have HG0:Hid (∀p ∈XS,p.1<g):=zH (fun p hp=>Nat.lt_of_lt_of_le (HE.out.outs p hp).blk.lt hgb);have HGV:Hid (∀b,Value.ownBlock u4=some b→b<g):=zH (fun b e=>Nat.lt_of_lt_of_le (qi HO.out b e) hgb);have HQ:=zH hout;have HFO:=zH hfound;have HPg:Hid (w1.heap.size≤g):=zH (Nat.le_trans hsz hgb);clear hout hfound hgb;simp only[List.length_map];go_wp2_with(at_builtin;refine q9r rfl _ _ 29 rfl w1.heap.size 53 i0 24 Tryz.underlying29 hi hz0 hz1 hz2 _ k (Qf XS) rfl (HO4.out.alloc _) (HE4.out.dry.below (qi HO4.out) ((zb _ _).alloc (zn _) _)) ⟨w4.heap.size,0,none⟩ _ _ _ _ rfl (cell_one_new w4 _ _ 0 _ rfl) (by unfold maxLen;omega) (by omega) (by simp;omega) _ rfl ?_;intro g9 c9 w6 hown hgrow hor hlt9 hdry;have HX6:=zH (qA (HX4.out.alloc hsz4 _) (HO4.out.alloc _) (by simp;omega) hgrow);have HO6:=zH hown;have HE6:=zH ((HE4.out.below (qi HO4.out) ((zb _ _).alloc (zn _) _)).snoc (HQ.out.keep ((zb _ _).alloc (zn _) _)) HG0.out HGV.out hgrow (hor.imp id (fun e=>Nat.le_of_eq e.symm)) hdry);clear hown hgrow hor hdry)
    go_roundw;case rel=>
     refine⟨k+1,XS++[(g,X)],by omega,by go_num,zH (by rw[List.length_append,HL.out];rfl),zH (by unfold Qf;rw[List.map_append];exact HO6.out),HX6,HE6,zH (fun p hp=> ?_),zH (fun i p hi=> ?_)⟩
     ·rcases List.mem_append.mp hp with q|q
      ·exact HP.out p q
      ·simp at q;subst q;exact HPg.out
     ·rcases Nat.lt_or_ge i XS.length with q|q
      ·rw[List.getElem?_append_left q]at hi;exact HF.out i p hi
      ·rw[List.getElem?_append_right q]at hi;have hiz:i - XS.length=0:=by
        rcases Nat.eq_zero_or_pos (i - XS.length)with z|z
        ·exact z
        ·rw[List.getElem?_eq_none (by simp;omega)]at hi;cases hi
       rw[hiz]at hi;simp at hi;subst hi;have hik:i=k:=by have:=HL.out;omega
       subst hik;exact HFO.out
    case measure=>simp[intOf];omega
  ·have e:k=m.methods.length:=by omega
   subst e;obtain⟨Ae,ce,he⟩:∃A c,u4= .slice A m.methods.length c:=by
    rcases jA HO.out with⟨e1,hz⟩|⟨g,c,e1,_,_⟩
    ·exact⟨none,0,by rw[e1,hz]⟩
    ·exact⟨_,c,e1⟩
   subst he;go_wp2_with fail
   go_ret2
   exact⟨Ae,m.methods.length,ce,-1,rfl,HW.out.trans (HX.out.mono HW.out.size),fun _=>⟨XS,rfl,HL.out,jI HO.out HW.out.size,HE.out,fun p hp=>Nat.le_trans HW.out.size (HP.out p hp),HF.out⟩⟩
theorem qr6{w:World}{g:Nat}{X:List zy}(h:qx w g X)(hl:X.length≤1000000):zd YE 2 w w.heap.size (some ⟨g,0,none⟩) X.length (X.map zy.shp):=
 ⟨by rw[List.length_map];exact zn _,by omega,fun i s hi=>by
  rw[List.getElem?_map]at hi;rcases Nat.lt_or_ge i X.length with q|q
  ·rw[List.getElem?_eq_getElem q]at hi;simp at hi;subst hi;have ea:(Addr.add ⟨g,0,none⟩ (i*2))=⟨g,i*2,none⟩:=by
    unfold Addr.add;split
    ·rename_i h0;rw[h0]
    ·simp
   refine⟨_,rfl,h.blk.lt,?_⟩;rw[ea];exact⟨h.seen_at q,X[i].A,X[i].c,h.stack_at q,h.row _ (List.getElem_mem q)⟩
  ·rw[List.getElem?_eq_none q]at hi;cases hi⟩
def QI(XS:List (Nat×List zy)):List (List zu):=XS.map fun p=>p.2.map zy.shp
theorem qrn{w:World}{B e n c:Nat}{A:Option Addr}{XS:List (Nat×List zy)}(ho:w.ownsRow B e 1 (.slice A n c) n (Qf XS))(hn:XS.length=n)(h:∀p ∈XS,qx w p.1 p.2)(hl:∀p ∈XS,p.2.length≤1000000):
  zd (qb YE 2) 1 w w.heap.size A c (QI XS):=by
 have hm:(QI XS).length=n:=by unfold QI;rw[List.length_map];exact hn
 rcases jA ho with⟨e1,hz⟩|⟨g,c',e1,h1,h2⟩
 ·injection e1 with e1 e2 e3;subst e1 e3;have:QI XS=[]:=List.eq_nil_of_length_eq_zero (by omega);rw[this];exact⟨zn _,by omega,qt.nil⟩
 ·injection e1 with e1 e2 e3;subst e1 e3;obtain⟨hb,hc⟩:=kb ho;refine⟨by rw[hm];exact h1,h2,fun i S hi=> ?_⟩;unfold QI at hi;rw[List.getElem?_map]at hi;rcases Nat.lt_or_ge i XS.length with q|q
  ·rw[List.getElem?_eq_getElem q]at hi;simp at hi;subst hi;have hv:(Qf XS)[i]? =some (.slice (some ⟨XS[i].1,0,none⟩) XS[i].2.length XS[i].2.length):=by unfold Qf;rw[List.getElem?_map,List.getElem?_eq_getElem q];rfl
   obtain⟨c0,hg⟩:=hc i _ hv;have ea:(Addr.add ⟨g,0,none⟩ (i*1))=⟨g,i,none⟩:=by
    unfold Addr.add;split
    ·rename_i h0;simp at h0;rw[h0]
    ·simp
   refine⟨_,rfl,hg,_,_,?_,qr6 (h _ (List.getElem_mem q)) (hl _ (List.getElem_mem q))⟩;rw[ea,List.length_map];exact c0
  ·rw[List.getElem?_eq_none q]at hi;cases hi
theorem qx.far{w:World}{g g':Nat}{X X':List zy}{p:Addr}(v:Value)(h':qx w g' X')(h:qx w g X)(hp:p.block=g')(hg:¬g=g'):qx (w.setCell p v) g X:=by
 have hz:(w.setCell p v).heap.size=w.heap.size:=by simp
 have hf:∀q:Addr,q.block≠g'→(w.setCell p v).cell? q=w.cell? q:=fun q hq=>World.cell?_setCell_far _ _ _ _ (fun e=>hq (by rw[←e];exact hp));refine⟨?_,fun x hx=>Yk (h.row x hx) (by rw[hz];exact zn _) hf (fun j hj=>h'.ty_apart (h.row x hx) hj)⟩;have hb:=h.blk;unfold zf at hb⊢
 rw[heap_setCell_other w p g v (fun e=>hg (by rw[e];exact hp))];exact hb
def qM(m:za)(w:World)(A:Option Addr)(c:Nat)(l:List (List zu)):Prop:=zd (qb YE 2) 1 w w.heap.size A c l∧q0n 64 l∧l.length=m.methods.length∧∀(i:Nat) S,l[i]? =some S→jF m (i:Int) S
theorem q9v{m:za}{w w':World}{A:Option Addr}{n c:Nat}{b:Int}(hm:zP m)(hyes:b<0→∃XS,n=m.methods.length∧XS.length=n∧w'.ownsRow w.heap.size 53 1 (.slice A n c) n (Qf XS)∧kU w' (.slice A n c) XS∧(∀p ∈XS,w.heap.size≤p.1)∧∀(i:Nat) p,XS[i]? =some p→jF m (i:Int) (p.2.map zy.shp))(hb:b<0):∃l,n=m.methods.length∧qM m w' A c l:=by
 obtain⟨XS,h1,h2,h3,h4,h5,h6⟩:=hyes hb;have hfd:∀p ∈XS,p.2.length≤64∧∀s ∈p.2.map zy.shp,s.stack.length≤8:=fun p hp=>by
  obtain⟨i,hi,e⟩:=List.getElem_of_mem hp;have hf:=h6 i p (by rw[List.getElem?_eq_getElem hi,e]);have hlt:i<m.methods.length:=by omega
  have hx:zm m (i:Int) ∈m.methods:=by unfold zm;rw[Int.toNat_natCast,List.getElem?_eq_getElem hlt];exact List.getElem_mem hlt
  have hl:=hf.grow.len;rw[List.length_map]at hl;exact⟨by have:=(hm.method hx).fits.cl;omega,hf.grow.small⟩
 have hln:(QI XS).length=n:=by unfold QI;rw[List.length_map];exact h2
 refine⟨QI XS,h1,qrn h3 h2 h4.outs (fun p hp=>by have:=(hfd p hp).1;omega),fun S hS=> ?_,by rw[hln,h1],fun i S hS=> ?_⟩
 ·unfold QI at hS;obtain⟨p,hp,rfl⟩:=List.mem_map.mp hS;obtain⟨a1,a2⟩:=hfd p hp;exact⟨by rw[List.length_map];omega,fun s hs=>by have:=a2 s hs;omega⟩
 ·unfold QI at hS;rw[List.getElem?_map]at hS;cases hp:XS[i]? with
  |none=>rw[hp]at hS;cases hS
  |some p=>rw[hp]at hS;cases hS;exact h6 i p hp
def kC(m:za)(f:Nat)(S:List zu)(pc:Nat):List Int:=if qh m f S pc=[]then [-1]else qh m f S pc
def jN(m:za)(f:Nat)(x:ze)(S:List zu)(pc:Nat):List (Int×Int×Int):=if(zv S (pc:Int)).seen=true then(kC m f S pc).map fun q=>((pc:Int),q,qs m x pc)else []
def vV(m:za)(f:Nat)(x:ze)(S:List zu):Nat→List (Int×Int×Int)
 |0=> []
 |pc+1=>vV m f x S pc++jN m f x S pc
def jw(m:za)(l:List (List zu))(f:Nat):List (Int×Int×Int):=vV m f (zm m (f:Int)) (l[f]?.getD []) (zm m (f:Int)).code.length
theorem q5g{m:za}{f:Nat}{x:ze}{S:List zu}{t:Int×Int×Int}:∀{n:Nat},t ∈vV m f x S n→∃pc:Nat,pc<n∧t ∈jN m f x S pc
 |0,h=>nomatch h
 |n+1,h=>by
  rcases List.mem_append.mp h with q|q
  ·obtain⟨pc,h1,h2⟩:=q5g q;exact⟨pc,by omega,h2⟩
  ·exact⟨n,by omega,q⟩
theorem q92{m:za}{f:Nat}{x:ze}{S:List zu}{pc:Nat}{t:Int×Int×Int}(h:t ∈jN m f x S pc):(zv S (pc:Int)).seen=true∧t.1=(pc:Int)∧t.2.2=qs m x pc∧t.2.1 ∈kC m f S pc:=by
 unfold jN at h;split at h
 ·rename_i hs;obtain⟨q,hq,rfl⟩:=List.mem_map.mp h;exact⟨hs,rfl,rfl,hq⟩
 ·cases h
theorem qhf(m:za)(f:Nat)(x:ze)(S:List zu)(pc:Nat)(h:(qh m f S pc).length≤2):(jN m f x S pc).length≤2:=by
 unfold jN kC;split
 ·rw[List.length_map];split
  ·exact(show 1≤2 by omega)
  ·exact h
 ·exact Nat.zero_le _
theorem q24(m:za)(f:Nat)(x:ze)(S:List zu)(h:∀pc,(qh m f S pc).length≤2):∀n,(vV m f x S n).length≤2*n
 |0=>zn _
 |n+1=>by
  have h1:=q24 m f x S h n;have h2:=qhf m f x S n (h n);show(vV m f x S n++jN m f x S n).length≤_;rw[List.length_append];omega
theorem qok(m:za)(f pc:Int)(st:List (Int×Int)):(zK m f pc st).next.length≤2:=by
 have h0:∀e,(qL e).next.length≤2:=fun e=>Nat.zero_le _;have h1:∀pc op a:Int,(qE pc op a).length≤2:=fun pc op a=>by
  unfold qE;split
  ·exact(show 1≤2 by omega)
  ·split
   ·exact(show 2≤2 by omega)
   ·split
    ·exact Nat.zero_le _
    ·exact(show 1≤2 by omega)
 unfold zK;split
 ·split
  ·unfold qr;split
   ·exact h0 _
   ·split
    ·exact h0 _
    ·split
     ·exact h1 _ _ _
     ·exact h0 _
  ·exact h0 _
 ·exact h0 _
theorem q1h(m:za)(f:Nat)(S:List zu)(pc:Nat):(qh m f S pc).length≤2:=qok ..
theorem q4y{m:za}{f pc:Nat}{x:ze}{op a b:Int}{st:List (Int×Int)}(hx:m.methods[f]? =some x)(hi:x.code[pc]? =some (op,a,b))(he:(zK m (f:Int) (pc:Int) st).err=0):(zK m (f:Int) (pc:Int) st).next=qE (pc:Int) op a:=by
 have e1:=Jw (st:=st) hx hi;rw[e1]at he⊢
 unfold qr at he⊢
 split
 ·rename_i h;rw[if_pos h]at he;exact absurd he (by decide)
 ·rename_i h;rw[if_neg h]at he;split
  ·rename_i h2;rw[if_pos h2]at he;exact absurd he (by decide)
  ·rename_i h2;rw[if_neg h2]at he;split
   ·rfl
   ·rename_i h3;rw[if_neg h3]at he;exact absurd he (by decide)
theorem q40{pc op a:Int}:qE pc op a=[]↔op=33:=by
 unfold qE;by_cases h1:op=18
 ·subst h1;simp
 ·rw[if_neg h1];by_cases h2:op=19
  ·subst h2;simp
  ·rw[if_neg h2];by_cases h3:op=33
   ·rw[if_pos h3];simp[h3]
   ·rw[if_neg h3];simp[h3]
theorem qpc(m:za)(a b:Int):jx m 33 a b=0:=rfl
theorem q5x{m:za}{l:List (List zu)}{f:Nat}{x:ze}{S:List zu}(hm:zP m)(hx:m.methods[f]? =some x)(hS:l[f]? =some S)(hF:jF m (f:Int) S):Zj (jw m l f) x.code.length:=by
 have hxN:zm m (f:Int)=x:=by unfold zm;rw[Int.toNat_natCast,hx];rfl
 have hxm:=List.mem_of_getElem? hx;have key:∀t ∈jw m l f,∃pc:Nat,pc<x.code.length∧t.1=(pc:Int)∧t.2.2=qs m x pc∧t.2.1 ∈kC m f S pc∧(zv S (pc:Int)).seen=true:=fun t ht=>by
  unfold jw at ht;rw[hxN,hS]at ht;obtain⟨pc,h1,h2⟩:=q5g ht;obtain⟨h3,h4,h5,h6⟩:=q92 h2;exact⟨pc,h1,h4,h5,h6,h3⟩
 refine⟨fun t ht=> ?_,fun t ht=> ?_,fun t ht h0=> ?_⟩
 ·obtain⟨pc,h1,h2,_⟩:=key t ht;omega
 ·obtain⟨pc,h1,_,h2,_⟩:=key t ht;rw[h2];unfold qs;rw[List.getElem?_eq_getElem h1];exact q1i hm hxm (List.getElem_mem h1)
 ·obtain⟨pc,h1,_,h2,h3,hs⟩:=key t ht;have hi:x.code[pc]? =some x.code[pc]:=List.getElem?_eq_getElem h1;have he:=hF.2 pc (by rw[hF.1.len,hxN];exact h1) hs;obtain⟨⟨op,a,b⟩,ho⟩:∃i,x.code[pc]=i:=⟨_,rfl⟩
  rw[ho]at hi;have hn:=q4y (st:=(zv S (pc:Int)).stack) hx hi he.1;have hxf:=hm.method hxm;have h33:op=33:=by
   unfold kC at h3;split at h3
   ·rename_i hnil;unfold qh at hnil;rw[hn]at hnil;exact q40.mp hnil
   ·have hnx:=Vv (m:=m) (st:=(zv S (pc:Int)).stack) (F:=0) (P:=pc) (hxf.fits.ct _ (List.mem_of_getElem? hi)) (hxf.co _ (List.mem_of_getElem? hi)) (by have:=he.1;rw[Jw (st:=(zv S (pc:Int)).stack) hx hi]at this;exact this);rw[←Jw (st:=(zv S (pc:Int)).stack) hx hi]at hnx;have:=(hnx t.2.1 h3).1;omega
  subst h33;rw[h2];unfold qs;rw[hi];exact qpc m a b
def kA(n:Nat)(t:Int×Int×Int):List Int×Int:=qN n t.1 t.2.1 (-t.2.2)
theorem qob{m:za}{f pc:Nat}{x:ze}{S:List zu}(h:(zv S (pc:Int)).seen=true→qh m f S pc=[]→qs m x pc=0):kO m f x S pc=(jN m f x S pc).map (kA x.code.length):=by
 unfold kO jN kC;by_cases hs:(zv S (pc:Int)).seen=true
 ·rw[if_pos hs,if_pos hs];by_cases hn:qh m f S pc=[]
  ·rw[if_pos hn,if_pos hn];simp[kA,h hs hn]
  ·rw[if_neg hn,if_neg hn,List.map_map];rfl
 ·rw[if_neg hs,if_neg hs];rfl
theorem q3w{m:za}{f:Nat}{x:ze}{S:List zu}:∀(n:Nat),(∀pc,pc<n→(zv S (pc:Int)).seen=true→qh m f S pc=[]→qs m x pc=0)→jl m f x S n=qN x.code.length (-1) 0 x.pot::(vV m f x S n).map (kA x.code.length)
 |0,_=>rfl
 |n+1,h=>by
  show jl m f x S n++kO m f x S n=_;rw[q3w n (fun pc hp=>h pc (by omega)),qob (h n (by omega))];show _=_::(vV m f x S n++jN m f x S n).map _;rw[List.map_append];rfl
def kV(x:za)(l:List (List zu))(f:Nat):ze:={zm x (f:Int)with phi:=ZS (jw x l f) (zm x (f:Int)).code.length}
def va(l:List (List zu))(x:za)(f:Nat):za:=Jh x f (kV x l f)
def YG(x:za)(f:Nat):ze:={zm x (f:Int)with pot:=zM (zm x (f:Int)) 0}
def JJ(x:za)(f:Nat):za:=Jh x f (YG x f)
def QJ(l:List (List zu))(x:za)(f:Nat):Bool:=(ZS (jw x l f) (zm x (f:Int)).code.length).any fun t=>decide (t>4096)
structure jU(m:za)(l:List (List zu))(D:List Nat)(x:za):Prop where
 alike:zC x=zC m
 fits:∀g ∈x.methods,q0f g
 zero:∀f:Nat,f<m.methods.length→f ∉D→(zm x (f:Int)).pot=0
 done:∀f:Nat,f<m.methods.length→f ∈D→∃y,zC y=zC m∧(∀g ∈y.methods,q0f g)∧(∀t,(zm y t).pot≤(zm x t).pot)∧(zm x (f:Int)).phi=ZS (jw y l f) (zm x (f:Int)).code.length∧(jX (jm m) m.methods.length f f=false→(zm x (f:Int)).pot=zM (zm x (f:Int)) 0)
 ring:∀f:Nat,f<m.methods.length→jX (jm m) m.methods.length f f=true→(zm x (f:Int)).pot=0
section
variable{m x:za}{l:List (List zu)}{D:List Nat}{f:Nat}
theorem jU.len(h:jU m l D x):x.methods.length=m.methods.length:=Qz h.alike
theorem jU.sane(h:jU m l D x)(hm:zP m):zP x:=YP h.alike hm h.fits
theorem qby{x:za}{f:Nat}(hf:f<x.methods.length):zm x (f:Int) ∈x.methods:=List.mem_of_getElem? (Qk hf)
theorem qcw{x:za}{n:Nat}(hw:Zj (jw x l f) n)(hn:(zm x (f:Int)).code.length=n)(h:QJ l x f=false):(ZS (jw x l f) n).length=n∧∀t ∈ZS (jw x l f) n,0≤t∧t≤4096:=by
 have hp:=q5t hw;refine⟨hp.len,fun t ht=>⟨?_,?_⟩⟩
 ·obtain⟨i,hi,rfl⟩:=List.getElem_of_mem ht;have:=hp.low i;rw[Qs hi]at this;exact this
 ·unfold QJ at h;rw[hn]at h;have:=List.any_eq_false.mp h t ht;simpa using this
theorem jU.phi(h:jU m l D x)(hf:f<m.methods.length)(hD:f ∉D)(hw:Zj (jw x l f) (zm x (f:Int)).code.length)(ho:QJ l x f=false)(hc:jX (jm m) m.methods.length f f=true):jU m l (f::D) (va l x f):=by
 have hfx:f<x.methods.length:=by rw[h.len];exact hf
 have hat:=Qk hfx;obtain⟨hl,hle⟩:=qcw hw rfl ho;have hfit:=h.fits _ (qby hfx);have hmt:∀t:Int,zm (va l x f) t=if t.toNat=f then kV x l f else zm x t:=fun t=>q1z hfx t
 have hpot:∀t:Int,(zm (va l x f) t).pot=(zm x t).pot:=fun t=>by
  rw[hmt];split
  ·rename_i e;have:zm x t=zm x (f:Int):=by unfold zm;rw[e,Int.toNat_natCast]
   rw[this];rfl
  ·rfl
 refine⟨(q4e (g':=kV x l f) hat rfl).trans h.alike,fun g hg=> ?_,fun k hk hD'=> ?_,fun k hk hD'=> ?_,fun k hk hr=>by rw[hpot];exact h.ring k hk hr⟩
 ·rcases q5f hat hg with rfl|hg
  ·exact⟨hl,hle,hfit.2.2.1,hfit.2.2.2⟩
  ·exact h.fits g hg
 ·rw[hpot];exact h.zero k hk (fun e=>hD' (List.mem_cons_of_mem _ e))
 ·by_cases e:k=f
  ·subst e;rw[hmt,if_pos (Int.toNat_natCast _)];exact⟨x,h.alike,h.fits,fun t=>by rw[hpot];exact Int.le_refl _,rfl,fun hw'=>by rw[hc]at hw';cases hw'⟩
  ·rcases List.mem_cons.mp hD' with q|q
   ·exact absurd q e
   ·obtain⟨y,y1,y2,y3,y4,y5⟩:=h.done k hk q;rw[hmt,if_neg (by rw[Int.toNat_natCast];exact e)];exact⟨y,y1,y2,fun t=>by rw[hpot];exact y3 t,y4,y5⟩
theorem jU.both(h:jU m l D x)(hf:f<m.methods.length)(hD:f ∉D)(hw:Zj (jw x l f) (zm x (f:Int)).code.length)(ho:QJ l x f=false)(hc:jX (jm m) m.methods.length f f=false):jU m l (f::D) (JJ (va l x f) f):=by
 have hfx:f<x.methods.length:=by rw[h.len];exact hf
 have hat:=Qk hfx;obtain⟨hl,hle⟩:=qcw hw rfl ho;have hfit:=h.fits _ (qby hfx);have hfy:f<(va l x f).methods.length:=by show f<(x.methods.set f _).length;rw[List.length_set];exact hfx
 have haty:=Qk hfy;have hmy:∀t:Int,zm (va l x f) t=if t.toNat=f then kV x l f else zm x t:=fun t=>q1z hfx t
 have hmf:zm (va l x f) (f:Int)=kV x l f:=by rw[hmy,if_pos (Int.toNat_natCast _)]
 have hmt:∀t:Int,zm (JJ (va l x f) f) t=if t.toNat=f then YG (va l x f) f else zm x t:=fun t=>by
  have:=q1z (g:=YG (va l x f) f) hfy t;unfold JJ;rw[this];split
  ·rfl
  ·rename_i e;rw[hmy,if_neg e]
 have hP:YG (va l x f) f={kV x l f with pot:=zM (kV x l f) 0}:=by unfold YG;rw[hmf]
 have h0:0≤zM (kV x l f) 0∧zM (kV x l f) 0≤4096:=by
  unfold zM;cases hq:(kV x l f).phi[(0:Int).toNat]? with
  |none=>exact⟨Int.le_refl _,(show(0:Int)≤4096 by decide)⟩
  |some v=>exact hle v (List.mem_of_getElem? hq)
 have hpot:∀t:Int,(zm x t).pot≤(zm (JJ (va l x f) f) t).pot:=fun t=>by
  rw[hmt];split
  ·rename_i e;have:zm x t=zm x (f:Int):=by unfold zm;rw[e,Int.toNat_natCast]
   rw[this,h.zero f hf hD,hP];exact h0.1
  ·exact Int.le_refl _
 have hb1:zC (va l x f)=zC x:=q4e (g':=kV x l f) hat rfl;refine⟨((q4e (g':=YG (va l x f) f) haty rfl).trans hb1).trans h.alike,fun g hg=> ?_,fun k hk hD'=> ?_,fun k hk hD'=> ?_,fun k hk hr=> ?_⟩
 ·rcases q5f haty hg with rfl|hg
  ·rw[hP];exact⟨hl,hle,h0.1,h0.2⟩
  ·rcases q5f hat hg with rfl|hg
   ·exact⟨hl,hle,hfit.2.2.1,hfit.2.2.2⟩
   ·exact h.fits g hg
 ·have e:k≠f:=fun e=>hD' (by rw[e];exact List.mem_cons_self);rw[hmt,if_neg (by rw[Int.toNat_natCast];exact e)];exact h.zero k hk (fun e=>hD' (List.mem_cons_of_mem _ e))
 ·by_cases e:k=f
  ·subst e;refine⟨x,h.alike,h.fits,hpot,?_,fun _=> ?_⟩
   ·rw[hmt,if_pos (Int.toNat_natCast _),hP];rfl
   ·rw[hmt,if_pos (Int.toNat_natCast _),hP];rfl
  ·rcases List.mem_cons.mp hD' with q|q
   ·exact absurd q e
   ·obtain⟨y,y1,y2,y3,y4,y5⟩:=h.done k hk q;refine⟨y,y1,y2,fun t=>Int.le_trans (y3 t) (hpot t),?_,?_⟩<;>rw[hmt,if_neg (by rw[Int.toNat_natCast];exact e)]
    ·exact y4
    ·exact y5
 ·have e:k≠f:=fun e=>by rw[e,hc]at hr;cases hr
  rw[hmt,if_neg (by rw[Int.toNat_natCast];exact e)];exact h.ring k hk hr
theorem jU.filled(h:jU m l D x)(hm:zP m)(hall:∀f:Nat,f<m.methods.length→f ∈D)(hT:∀(f:Nat) S,l[f]? =some S→jF m (f:Int) S)(hl:l.length=m.methods.length)(hp:qZ x l= -1):ZV m l x:=by
 have hbad:=q2d hp;have key:∀(f:Nat),f<m.methods.length→vQ x f (zm x (f:Int)) (l[f]?.getD [])=true:=fun f hf=>by
  have:=hbad f (by rw[h.len];exact hf);unfold vd at this;simpa using this
 have h0:∀(f:Nat),f<m.methods.length→zM (zm x (f:Int)) 0≤(zm x (f:Int)).pot:=fun f hf=>by
  have:=key f hf;unfold vQ at this;rw[Bool.and_eq_true,decide_eq_true_eq]at this;exact this.1
 refine⟨h.alike,h.fits,fun g hg=> ?_,hp,fun f g hg p hpc hne=> ?_,h.ring⟩
 ·obtain⟨f,hfx,rfl⟩:=List.getElem_of_mem hg;have hf:f<m.methods.length:=by rw[←h.len];exact hfx
  have e:zm x (f:Int)=x.methods[f]:=by have:=Qk hfx;rw[List.getElem?_eq_getElem hfx]at this;injection this with this;exact this.symm
  obtain⟨y,_,_,_,_,y5⟩:=h.done f hf (hall f hf);cases hw:jX (jm m) m.methods.length f f with
  |false=>rw[←e];exact y5 hw
  |true=>
   have h1:=h.ring f hf hw;have h2:=h0 f hf;rw[e]at h1 h2;have h3:=qo9 (fun t ht=>((h.fits _ hg).2.1 t ht).1) 0;omega
 ·have hfx:=(List.getElem?_eq_some_iff.mp hg).1;have hf:f<m.methods.length:=by rw[←h.len];exact hfx
  have e:zm x (f:Int)=g:=by have:=Qk hfx;rw[hg]at this;injection this with this;exact this.symm
  obtain⟨y,y1,y2,y3,y4,_⟩:=h.done f hf (hall f hf);rw[e]at y4;have hSf:l[f]? =some l[f]:=List.getElem?_eq_getElem (by rw[hl];exact hf);have hyx:f<y.methods.length:=by rw[Qz y1];exact hf
  have hcy:(zm y (f:Int)).code=g.code:=by rw[←e,YY y1,YY h.alike]
  have hwo:=q5x (YP y1 hm y2) (Qk hyx) hSf (q18 y1 (hT f _ hSf));rw[hcy]at hwo;have hlp:=q5t hwo;rw[←y4]at hlp;have hph:∀k:Nat,oN g.phi k=zM g (k:Int):=fun k=>by unfold oN zM;rw[Int.toNat_natCast]
  obtain⟨q,c,q1,q2,q3⟩:=hlp.want p (by rw[hph];exact hne);rw[hph,hph]at q3;unfold jw at q1;obtain⟨pc,hpc1,hpc2⟩:=q5g q1;obtain⟨s1,s2,s3,s4⟩:=q92 hpc2;dsimp only at s2 s3 s4;have epc:pc=p:=by omega
  subst epc;have hnx:(q:Int) ∈qh x f (l[f]?.getD []) pc:=by
   rw[Jq h.alike,←Jq y1];unfold kC at s4;split at s4
   ·rw[List.mem_singleton]at s4;omega
   ·exact s4
  have hcost:c≤qs x g pc:=by
   rw[s3];exact qfv (x:=y) (z:=x) ((Jp h.alike).trans (Jp y1).symm) y3 hcy.symm pc
  refine⟨s1,q,hnx,?_,by omega⟩;intro eq;subst eq;have hk:=key f hf;rw[e]at hk;unfold vQ at hk;rw[Bool.and_eq_true]at hk;have h1:=Jz.mp hk.2 q hpc;unfold vg at h1;rw[s1,Bool.not_true,Bool.false_or]at h1;have:=List.all_eq_true.mp h1 _ hnx;unfold vG at this;rw[decide_eq_true_eq]at this;rcases q2 with q2|q2
  ·exact q2 rfl
  ·omega
end
def Yz(m:za):za:={m with methods:=m.methods.map fun g=> {g with pot:=0}}
theorem qai(m:za)(t:Int):zm (Yz m) t={zm m t with pot:=0}:=by
 unfold zm Yz;simp only[List.getElem?_map];cases m.methods[t.toNat]? <;>rfl
theorem jU.start{m:za}{l:List (List zu)}(hm:zP m):jU m l [] (Yz m):=by
 refine⟨?_,fun g hg=> ?_,fun f hf _=>by rw[qai],(fun f hf h=>nomatch h),fun f hf _=>by rw[qai]⟩
 ·unfold zC Yz;dsimp only;congr 1;rw[List.map_map];rfl
 ·obtain⟨g0,h0,rfl⟩:=List.mem_map.mp hg;have:=hm.method h0;exact⟨this.ph,fun t ht=>this.fits.pt t ht,Int.le_refl _,(show(0:Int)≤4096 by decide)⟩
def Qr:Nat→Int→List Int→Int
 |_,_,[]=>0
 |s,i,y::M=>(if(s:Int)=i then y else 0)+Qr (s+1) i M
theorem q5p:∀(M:List Int) (s:Nat) (i:Int),i<s→Qr s i M=0
 | [],_,_,_=>rfl
 |y::M,s,i,h=>by
  show(if(s:Int)=i then y else 0)+Qr (s+1) i M=0;rw[if_neg (by omega),q5p M (s+1) i (by omega)];rfl
theorem qcu:∀(M:List Int) (s k:Nat),Qr s ((s+k:Nat):Int) M=M[k]?.getD 0
 | [],_,_=>rfl
 |y::M,s,0=>by
  show(if(s:Int)=((s+0:Nat):Int)then y else 0)+Qr (s+1) ((s+0:Nat):Int) M=y;rw[if_pos (by omega),q5p M (s+1) _ (by omega),Int.add_zero]
 |y::M,s,k+1=>by
  show(if(s:Int)=((s+(k+1):Nat):Int)then y else 0)+Qr (s+1) ((s+(k+1):Nat):Int) M=(y::M)[k+1]?.getD 0;rw[if_neg (by omega),show s+(k+1)=s+1+k by omega,qcu M (s+1) k,Int.zero_add];rfl
theorem qbr(M:List Int)(i:Int):Qr 0 i M=atI M i:=by
 unfold atI;split
 ·rename_i h;exact q5p M 0 i (by omega)
 ·rename_i h;have:=qcu M 0 i.toNat
  rw[show((0+i.toNat:Nat):Int)=i by omega]at this;exact this
def Ji(a b:Int)(s n:Nat):List Int:=(List.range n).map fun v:Nat=>(if((v+s:Nat):Int)=b then 1 else 0) - (if((v+s:Nat):Int)=a then 1 else 0)
theorem qge(a b:Int)(s n:Nat):Ji a b s (n+1)=((if(s:Int)=b then 1 else 0) - (if(s:Int)=a then 1 else 0))::Ji a b (s+1) n:=by
 unfold Ji;rw[List.range_succ_eq_map,List.map_cons,List.map_map];congr 1
 ·rw[Nat.zero_add]
 ·refine List.map_congr_left fun v _=> ?_;show _=_;simp only[Function.comp_apply];rw[show v+1+s=v+(s+1)by omega]
theorem qcc(a b:Int):∀(M:List Int) (s:Nat),Qe (Ji a b s M.length) M=Qr s b M - Qr s a M
 | [],s=>by rw[qdq];rfl
 |y::M,s=>by
  rw[List.length_cons,qge];show _*y+Qe (Ji a b (s+1) M.length) M=((if(s:Int)=b then y else 0)+Qr (s+1) b M) - ((if(s:Int)=a then y else 0)+Qr (s+1) a M)
  rw[qcc a b M (s+1)];split<;>split<;>omega
theorem q3x{x:ze}{a b most:Int}(hf:x.phi.length=x.code.length)(hp:∀t ∈x.phi,0≤t∧t≤4096)(hl:x.code.length≤64):ZA (qN x.code.length a b most) x.phi=some (decide (atI x.phi b - atI x.phi a≤most)):=by
 have e1:(qN x.code.length a b most).1=Ji a b 0 x.phi.length:=by
  unfold qN Ji;rw[hf];rfl
 have e2:Qe (qN x.code.length a b most).1 x.phi=atI x.phi b - atI x.phi a:=by
  rw[e1,qcc,qbr,qbr]
 have hd:YH (qN x.code.length a b most).1 x.phi=some (Qe (qN x.code.length a b most).1 x.phi):=qix (P:=1) (Q:=4096) (by decide) (by decide) (by decide) (fun c hc=>by
  unfold qN at hc;obtain⟨v,_,rfl⟩:=List.mem_map.mp hc;split<;>split<;>decide) (fun y hy=>by have:=hp y hy;omega) (by rw[e1];simp[Ji];omega)
 unfold ZA;rw[if_pos (by rw[e1];simp[Ji]),hd,e2];rfl
theorem qci{α:Type}{f g:α→Bool}:∀{L:List α},(∀q ∈L,f q=g q)→L.all f=L.all g
 | [],_=>rfl
 |a::L,h=>by rw[List.all_cons,List.all_cons,h a List.mem_cons_self,qci fun q hq=>h q (List.mem_cons_of_mem _ hq)]
def kD(x:ze)(q:List Int×Int):Bool:=(ZA q x.phi).getD false
theorem q8t{m:za}{l:List (List zu)}{k:Nat}{x:ze}(hx:m.methods[k]? =some x):vB m l (k:Int)=jl m k x (l[k]?.getD []) x.code.length:=by
 have hk:=(List.getElem?_eq_some_iff.mp hx).1;have hxN:zm m (k:Int)=x:=by unfold zm;rw[Int.toNat_natCast,hx];rfl
 unfold vB;rw[if_pos ⟨by omega,by omega⟩,Int.toNat_natCast,hxN]
theorem qhg{m:za}{f pc:Nat}{x:ze}{S:List zu}(hf:x.phi.length=x.code.length)(hp:∀t ∈x.phi,0≤t∧t≤4096)(hl:x.code.length≤64)(hn:(zv S (pc:Int)).seen=true→∀q ∈qh m f S pc,0≤q):
  (kO m f x S pc).all (kD x)=vg m f x S pc:=by
 have hph:∀i:Int,0≤i→atI x.phi i=zM x i:=fun i hi=>by unfold atI zM;rw[if_neg (by omega)]
 have hlow:∀k:Nat,0≤zM x (k:Int):=fun k=>by
  unfold zM;cases h:x.phi[(k:Int).toNat]? with
  |none=>exact Int.le_refl _
  |some v=>exact(hp v (List.mem_of_getElem? h)).1
 unfold kO vg;by_cases hs:(zv S (pc:Int)).seen=true
 ·rw[if_pos hs,hs,Bool.not_true,Bool.false_or];by_cases hnil:qh m f S pc=[]
  ·rw[if_pos hnil,hnil];have e:atI x.phi (-1)=0:=rfl;have:=hlow pc;simp only[List.all_cons,List.all_nil,Bool.and_true];unfold kD;rw[q3x hf hp hl,e,hph _ (by omega)];show decide _=true;rw[decide_eq_true_eq];omega
  ·rw[if_neg hnil,List.all_map];refine qci fun q hq=> ?_;show kD x (qN x.code.length (pc:Int) q (-(qs m x pc)))=vG m x pc q;unfold kD vG;rw[q3x hf hp hl,hph _ (hn hs q hq),hph _ (by omega)];show decide _=decide _;exact decide_eq_decide.mpr (by omega)
 ·have hs':(zv S (pc:Int)).seen=false:=by simpa using hs
  rw[if_neg hs,hs'];rfl
theorem q8s{m:za}{f:Nat}{x:ze}{S:List zu}(hf:x.phi.length=x.code.length)(hp:∀t ∈x.phi,0≤t∧t≤4096)(hl:x.code.length≤64)(hn:∀pc:Nat,(zv S (pc:Int)).seen=true→∀q ∈qh m f S pc,0≤q):
  ∀n,(jl m f x S n).all (kD x)=(decide (zM x 0≤x.pot)&& (List.range n).all (vg m f x S))
 |0=>by
  show(kD x (qN x.code.length (-1) 0 x.pot)&& true)=(_&& true)
  congr 1;unfold kD;rw[q3x hf hp hl];show decide _=decide _;have e:atI x.phi (-1)=0:=rfl;have e2:atI x.phi 0=zM x 0:=by unfold atI zM;rw[if_neg (by omega)]
  rw[e,e2,Int.sub_zero]
 |n+1=>by
  show(jl m f x S n++kO m f x S n).all (kD x)=_;rw[List.all_append,q8s hf hp hl hn n,qhg hf hp hl (hn n),List.range_succ,List.all_append,Bool.and_assoc];simp
theorem qnu{m:za}{l:List (List zu)}{k:Nat}{x:ze}{S:List zu}(hm:zP m)(hx:m.methods[k]? =some x)(hS:l[k]? =some S)(hF:jF m (k:Int) S):(vB m l (k:Int)).all (kD x)= !vd m l k:=by
 have hxm:=List.mem_of_getElem? hx;have hxf:=(hm.method hxm)
 have hxN:zm m (k:Int)=x:=by unfold zm;rw[Int.toNat_natCast,hx];rfl
 rw[q8t hx,hS];show(jl m k x S x.code.length).all (kD x)=_;rw[q8s hxf.ph (fun t ht=>hxf.fits.pt t ht) hxf.fits.cl]
 ·unfold vd;rw[hxN,hS,Bool.not_not];rfl
 ·intro pc hs q hq;have hpl:pc<S.length:=by
   rcases Nat.lt_or_ge pc S.length with h|h
   ·exact h
   ·unfold zv at hs;rw[Int.toNat_natCast,List.getElem?_eq_none h]at hs;cases hs
  have he:=(hF.2 pc hpl hs).1;obtain⟨ins,hi⟩:∃i,x.code[pc]? =some i:=⟨_,List.getElem?_eq_getElem (by rw[←hxN,←hF.1.len];exact hpl)⟩
  obtain⟨op,a,b⟩:=ins;have e1:=Jw (st:=(zv S (pc:Int)).stack) hx hi;have:=Vv (m:=m) (st:=(zv S (pc:Int)).stack) (F:=0) (P:=pc) (hxf.fits.ct _ (List.mem_of_getElem? hi)) (hxf.co _ (List.mem_of_getElem? hi)) (by rw[←e1];exact he);rw[←e1]at this;exact(this q hq).1
def qck(m:za)(r:Bool)(w:World)(e:Ending)(w':World):Prop:=∃A n c b,e= .returned (.tuple #[.slice A n c,.bool b])∧Below w.heap.size w w'∧(b=true→r=true∧∃l,n=m.methods.length∧qM m w' A c l)
set_option maxHeartbeats 1600000 in
theorem qeq(m:za)(h:zl)(w:World)(H:zp w w.heap.size h m):
  Calls Tryz.prog 8 #[zr h m] w (qck m (vc m) w):=by
 have HW:=zH (ko (w:=w) (h:=h) (m:=m));have HBX:=zH (qf w h m);have HZ:Hid (w.heap.size<(w.alloc (zq h m)).heap.size):=zH (by simp);have HI:=zH (H.now HW.out);obtain⟨r,hr⟩:∃r,vc m=r:=⟨_,rfl⟩
 have HR:=zH hr;rw[hr];clear H hr;go_enter Tryz.func8,Tryz.ntmps8;go_upto_region 1 with fail
 generalize w.alloc (zq h m)=w1 at*
 obtain⟨q0,q1,q2,q3,q4,q5,q6⟩:=HBX.out;have HX:Hid (Below w1.heap.size w1 w1):=zH (zb _ _);cases r
 ·go_wp2_with(first|(go_at_call 22;(with_reducible refine(qa2 HI HX HR).mono ?_);rintro e w7 ⟨rfl,hb⟩;have HX:=zH (HX.out.trans (hb.mono HX.out.size));clear hb;obtain⟨q0,q1,q2,q3,q4,q5,q6⟩:=HBX.out.keep HX.out HZ.out))
  go_ret2
  exact⟨none,0,0,false,rfl,HW.out.trans (HX.out.mono (Nat.le_of_lt HZ.out)),fun e=>nomatch e⟩
 have HM:=zH (Qh HR.out);go_wp2_with(first|(go_at_call 22;(with_reducible refine(qa2 HI HX HR).mono ?_);rintro e w7 ⟨rfl,hb⟩;have HX:=zH (HX.out.trans (hb.mono HX.out.size));clear hb;obtain⟨q0,q1,q2,q3,q4,q5,q6⟩:=HBX.out.keep HX.out HZ.out)|(go_at_call 23;(with_reducible refine(qo1 m h _ (HI.out.now HX.out) HM.out (by have:=HM.out.fits.ml;omega)).mono ?_);rintro e w8 ⟨Al,nl,cl,bd,rfl,hb,hyes⟩;have HYES:=zH (q9v HM.out hyes);clear hyes;have HX:=zH (HX.out.trans (hb.mono HX.out.size));clear hb;obtain⟨q0,q1,q2,q3,q4,q5,q6⟩:=HBX.out.keep HX.out HZ.out))
 go_ret2
 exact⟨Al,nl,cl,_,rfl,HW.out.trans (HX.out.mono (Nat.le_of_lt HZ.out)),fun e=>⟨rfl,HYES.out (of_decide_eq_true e)⟩⟩
end Go.Proofs.YtdbfllajopcccaaGreat
