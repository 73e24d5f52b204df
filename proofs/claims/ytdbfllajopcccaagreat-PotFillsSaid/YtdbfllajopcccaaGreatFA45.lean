import Derived.BigRegion
import Derived.Test.YtdbfllajopcccaaGreatFA40
import Derived.Test.YtdbfllajopcccaaGreatFA39
import Derived.Test.YtdbfllajopcccaaGreatFA16
namespace Go.Proofs.YtdbfllajopcccaaGreat
set_option maxRecDepth 100000
set_option linter.unusedVariables false
set_option linter.unusedSimpArgs false
open Go.ChangeShapes Go.WideShapes Go.ChangeAt Go.RowKit
theorem qot:(Tryz.prog.info? 42).map (fun i=>(i.zero,i.size,i.bytes))=some (some (.agg #[.slice none 0 0,.slice none 0 0,.int .i64 0,.int .i64 0,.slice none 0 0,.int .i64 0,.int .i64 0,.slice none 0 0]),8,128):=by kernel_rfl
theorem qm7{w:World}{B c:Nat}{A:Option Addr}{L:List Int}(h:zd zo 1 w B A c L):zz w B A (L.map (Value.int .i64)):=fun j u hj=>by
 rw[List.getElem?_map]at hj;cases hl:L[j]? with
 |none=>rw[hl]at hj;cases hj
 |some x=>
  rw[hl]at hj;injection hj with hj;subst hj;obtain⟨ad,e,hb,hc⟩:=h.row j x hl;rw[Nat.mul_one]at hc;exact⟨ad,e,hb,hc⟩
theorem qm4(l:List Int):∀u ∈l.map (Value.int .i64),u.oneCell'=true:=fun u hu=>by
 obtain⟨t,_,rfl⟩:=List.mem_map.mp hu;rfl
theorem qqs{m:za}{l:List (List zu)}{A:Option Addr}{c k:Nat}{h:zl}{w:World}{V:Value}{r:Int}(HI:Hid (zp w w.heap.size h m))(HM:Hid (zP m))(HT:Hid (qM m w A c l))(HK:Hid (l.length=k))(HV:Hid (zr h m=V))(HR:Hid (qZ m l=r)):
  Calls Tryz.prog 11 #[V,.slice A k c] w fun e w'=>e= .returned (.int .i64 r)∧Below w.heap.size w w':=by
 obtain rfl:=HK.out;rw[←HV.out,←HR.out];exact qa4 m l A c h w HI.out HM.out HT.out
theorem q4x{w:World}{B e size n:Nat}{v:Value}{xs:List Value}(h:w.ownsRow B e size v n xs):∃A c,v= .slice A n c:=by
 rcases jA h with⟨e1,e2⟩|⟨g,c,e1,_⟩
 ·subst e2;exact⟨none,0,e1⟩
 ·exact⟨_,c,e1⟩
theorem q4w{w:World}{B e size n c:Nat}{A:Option Addr}{xs:List Value}(h:w.ownsRow B e size (.slice A n c) n xs)(hn:0<n):∃g,A=some ⟨g,0,none⟩:=by
 rcases jA h with⟨_,e2⟩|⟨g,c',e1,_⟩
 ·omega
 ·injection e1 with e1;exact⟨g,e1⟩
theorem qgz{x m:za}(h:zC x=zC m):(⟨x.classes,x.statics,x.ints,m.methods,x.entries,x.stack,x.heap⟩:za)=m:=by
 rw[Jp h,q38 h,q44 h,q39 h,q3g h,q46 h]
theorem q5z{a b:za}{ha hb:zl}{w:World}{V:Value}{r:Bool}(HA:Hid (zp w w.heap.size ha a))(HB:Hid (zp w w.heap.size hb b))(HV:Hid (zr ha a=V))(HR:Hid (decide (a=b)=r)):
  Calls Tryz.prog 19 #[V,zr hb b] w fun e w'=>e= .returned (.bool r)∧Below w.heap.size w w':=by
 rw[←HV.out,←HR.out];exact qko a b ha hb w.heap.size w (zn _) HA.out HB.out
theorem qlx{zs:List (ze×zS)}{k:Nat}{gx gm:ze}{h:zS}{A7:Option Addr}{k7:Nat}(hz:zs[k]? =some (gx,h))(hb:qa gm=qa gx):
  ((qU zs).set (k*8+7) (.slice A7 gm.phi.length k7)).set (k*8+6) (.int .i64 gm.pot)=qU (zs.set k (gm,⟨h.A0,h.A1,h.A4,A7,h.k0,h.k1,h.k4,k7⟩)):=by
 have hk:=(List.getElem?_eq_some_iff.mp hz).1;obtain⟨a,b,c,d,e,p,q⟩:=gx;obtain⟨a',b',c',d',e',p',q'⟩:=gm;unfold qa at hb;injection hb with h1 h2 h3 h4 h5;subst h1 h2 h3 h4 h5;rw[q2h (r:=7) (y:=(⟨a',b',c',d',e',p,q'⟩,⟨h.A0,h.A1,h.A4,A7,h.k0,h.k1,h.k4,k7⟩)) hz (by decide) rfl];rw[q2h (zs:=zs.set k (⟨a',b',c',d',e',p,q'⟩,⟨h.A0,h.A1,h.A4,A7,h.k0,h.k1,h.k4,k7⟩)) (i:=k) (r:=6) (z:=(⟨a',b',c',d',e',p,q'⟩,⟨h.A0,h.A1,h.A4,A7,h.k0,h.k1,h.k4,k7⟩)) (y:=(⟨a',b',c',d',e',p',q'⟩,⟨h.A0,h.A1,h.A4,A7,h.k0,h.k1,h.k4,k7⟩)) (by rw[List.getElem?_set,if_pos rfl,if_pos hk]) (by decide) rfl];rw[List.set_set]
theorem qnk{L M:List ze}{k:Nat}{g:ze}(hL:L[k]? =some g)(hM:k<M.length):(L.take k++M.drop k).set k g=L.take (k+1)++M.drop (k+1):=by
 have hl:=(List.getElem?_eq_some_iff.mp hL).1;have h1:(L.take k).length=k:=by rw[List.length_take];omega
 rw[List.set_append_right _ _ (by omega),h1,Nat.sub_self,List.drop_eq_getElem_cons hM,List.set_cons_zero,List.take_add_one,hL,List.append_assoc];rfl
theorem qhq{w:World}{B:Nat}{gx gm:ze}{h hm:zS}(hb:qa gm=qa gx)(hx:qy w B h gx)(hy:qy w B hm gm):qy w B ⟨h.A0,h.A1,h.A4,hm.A7,h.k0,h.k1,h.k4,hm.k7⟩ gm:=by
 have ea:gm.args=gx.args:=show(qa gm).args=(qa gx).args by rw[hb]
 have el:gm.locals=gx.locals:=show(qa gm).locals=(qa gx).locals by rw[hb]
 have ec:gm.code=gx.code:=show(qa gm).code=(qa gx).code by rw[hb]
 exact⟨by rw[ea];exact hx.args,by rw[el];exact hx.locals,by rw[ec];exact hx.code,hy.phi⟩
theorem qlk{w:World}{B e n c:Nat}{A:Option Addr}{zs:List (ze×zS)}(h:w.ownsRow B e 8 (.slice A n c) n (qU zs))(hn:zs.length=n)(hg:∀z ∈zs,qy w w.heap.size z.2 z.1):zd jW 8 w w.heap.size A c (zs.map (·.1)):=by
 rcases jA h with⟨e1,e2⟩|⟨g,c',e1,_⟩
 ·injection e1 with e1 e3 e4;subst e1 e4;have:zs=[]:=List.eq_nil_of_length_eq_zero (by omega);subst this;exact ji
 ·injection e1 with e1;subst e1;exact q2e h hn hg
set_option maxHeartbeats 12800000 in
theorem qed(m:za)(f pc:Int)(hf0:0≤f)(hf1:f≤255)(hp0:0≤pc)(hp1:pc≤255)(h:zl)(w:World)(H:zp w w.heap.size h m):
  Calls Tryz.prog 6 #[zr h m,.int .u8 f,.int .u8 pc] w fun e w'=>e= .returned (.bool true)∧Below w.heap.size w w':=by
 obtain⟨i0,hi,hz0,hz1,hz2⟩:=jg qot;have HW:=zH (ko (w:=w) (h:=h) (m:=m));have HBX:=zH (qf w h m);have HZ:Hid (w.heap.size<(w.alloc (zq h m)).heap.size):=zH (by simp);have HI:=zH (H.now HW.out);clear H;obtain⟨A0,Ab,A2,A3,A4,k0,k1,k2,k3,k4⟩:=h;go_enter Tryz.func6,Tryz.ntmps6;go_upto_region 1 with fail
 generalize w.alloc (zq ⟨A0,Ab,A2,A3,A4,k0,k1,k2,k3,k4⟩ m)=w1 at*
 obtain⟨q0,q1,q2,q3,q4,q5,q6⟩:=HBX.out;have HX:Hid (Below w1.heap.size w1 w1):=zH (zb _ _);go_upto_region 2 with(go_at_call 8;(with_reducible refine(VW HI HX).mono ?_);rintro e w2 ⟨Al,nl,cl,ok,rfl,hb,hyes⟩;have HX2:=zj HX hb;have HYES:=zH hyes;clear hb hyes)
 clear q0 q1 q2 q3 q4 q5 q6;obtain⟨q0,q1,q2,q3,q4,q5,q6⟩:=HBX.out.keep HX2.out HZ.out;cases ok
 ·go_wp2_with(go_at_call 9;(with_reducible refine(kh _).mono ?_);rintro e w3 ⟨rfl,hb⟩;have HX3:=zj HX2 hb;clear hb)
  go_ret;exact⟨by first|rfl|simp,HW.out.trans (HX3.out.mono (Nat.le_of_lt HZ.out))⟩
 obtain⟨hs,l,hn,ht⟩:=HYES.out rfl;have HS:=zH hs;have HM:=zH (Qh hs);have HT:=zH ht;have HLL:Hid (l.length=nl):=zH (by rw[ht.2.2.1,hn]);clear hs hn ht HYES;go_upto_region 5 with(go_at_call 18;(with_reducible refine(qbs HI HX2 HS HT HLL).mono ?_);rintro e w3 ⟨hx,x,fine,rfl,hb,hix,hno,hyes⟩;have HX3:=zj HX2 hb;have HT3:=zH (HT.out.now hb);have HIX0:=zH hix;have HNO:=zH hno;have HYES:=zH hyes;clear hb hix hno hyes)
 obtain⟨B0,B1,B2,B3,B4,j0,j1,j2,j3,j4⟩:=hx;have HB4:=zH (ko (w:=w3) (h:=⟨B0,B1,B2,B3,B4,j0,j1,j2,j3,j4⟩) (m:=x));have HBXX:=zH (qf w3 ⟨B0,B1,B2,B3,B4,j0,j1,j2,j3,j4⟩ x);have HZX:Hid (w3.heap.size<(w3.alloc (zq ⟨B0,B1,B2,B3,B4,j0,j1,j2,j3,j4⟩ x)).heap.size):=zH (by simp);have HIX:=zH (HIX0.out.now HB4.out);have HX4:=zH (HX3.out.trans (HB4.out.mono HX3.out.size));have HT4:=zH (HT3.out.now HB4.out);clear HIX0 q0 q1 q2 q3 q4 q5 q6;generalize w3.alloc (zq ⟨B0,B1,B2,B3,B4,j0,j1,j2,j3,j4⟩ x)=w4 at*
 have HXX:Hid (Below w4.heap.size w4 w4):=zH (zb _ _);cases fine
 ·have HX0:Hid (x.methods.length=0):=zH (by rw[HNO.out rfl];rfl);go_wp2_with(go_at_call 9;(with_reducible refine(kh _).mono ?_);rintro e w5 ⟨rfl,hb⟩;have HX5:=zj HX4 hb;obtain⟨p0,p1,p2,p3,p4,p5,p6⟩:=HBXX.out.keep (HXX.out.trans hb) HZX.out;rw[HX0.out]at p3;clear hb)
  go_ret;exact⟨by first|rfl|simp,HW.out.trans (HX5.out.mono (Nat.le_of_lt HZ.out))⟩
 have HF:=zH (HYES.out rfl);clear HYES HNO;have hlx:=Qz HF.out.alike;have hne:((x.methods.length:Int) !=(m.methods.length:Int))=false:=bne_eq_false_iff_eq.mpr (by omega);have HLX:=zH hlx;have HMX:Hid (zP x):=zH (YP HF.out.alike HM.out HF.out.phi);have hml:x.methods.length≤12:=by have:=HMX.out.fits.ml;omega
 have hmle:=HIX.out.methods.le;have hmcap:=HIX.out.methods.cap;have hmle2:=HI.out.methods.le;have hmcap2:=HI.out.methods.cap;have HTX:=zH (q7t HT4.out HF.out.alike);have HPT:Hid (qZ x l= -1):=zH HF.out.holds;clear hlx;obtain⟨q0,q1,q2,q3,q4,q5,q6⟩:=HBX.out.keep HX4.out HZ.out;obtain⟨p0,p1,p2,p3,p4,p5,p6⟩:=HBXX.out;go_upto_region 9 with(go_at_call 11;(with_reducible refine(q5n HIX HXX HMX HTX HLL HPT).mono ?_);rintro e w5 ⟨rfl,hb⟩;have HX5:=zj HX4 hb;have HXX5:=zH hb;clear hb)
 clear hne q0 q1 q2 q3 q4 q5 q6 p0 p1 p2 p3 p4 p5 p6;have hz45:=HXX5.out.size;have hz15:=HX5.out.size;have HIX5:=zH (HIX.out.now HXX5.out);have HI5:=zH (HI.out.now HX5.out);have HT5:=zH (HT4.out.now HXX5.out);obtain⟨p0,p1,p2,p3,p4,p5,p6⟩:=HBXX.out.keep HXX5.out HZX.out;have HQ6:Hid (zf (w5.alloc (zq ⟨B0,B1,B2,B3,B4,j0,j1,j2,j3,j4⟩ x)) w5.heap.size [.slice B0 x.classes.length j0,.slice B1 x.statics.length j1,.slice B2 x.ints.length j2,.slice B3 x.methods.length j3,.slice B4 x.entries.length j4,.int .i64 x.stack,.int .i64 x.heap] 28):=zH (zf.new w5 [.slice B0 x.classes.length j0,.slice B1 x.statics.length j1,.slice B2 x.ints.length j2,.slice B3 x.methods.length j3,.slice B4 x.entries.length j4,.int .i64 x.stack,.int .i64 x.heap] 28);have HY6:Hid (Below w5.heap.size w5 (w5.alloc (zq ⟨B0,B1,B2,B3,B4,j0,j1,j2,j3,j4⟩ x))):=zH ko;go_upto_region 10 with fail
 clear p0 p1 p2 p3 p4 p5 p6;generalize w5.alloc (zq ⟨B0,B1,B2,B3,B4,j0,j1,j2,j3,j4⟩ x)=w6 at*
 obtain⟨Z,hZf,hZl,hZi⟩:=q63 HIX5.out.methods.row;have hZn:Z.length=x.methods.length:=by rw[←hZf,List.length_map]
 have HZL:Hid (zz w6 w6.heap.size B3 (qU Z)):=zH ((hZl.below HY6.out).more HY6.out.size);have HZI:Hid (∀z ∈Z,qy w5 w5.heap.size z.2 z.1):=zH hZi;have HZF:=zH hZf;have HZN:=zH hZn;have HZS:Hid (w6.heap.size≤w6.heap.size):=zH (zn _);clear hZf hZl hZi hZn;obtain⟨p0,p1,p2,p3,p4,p5,p6⟩:=HBXX.out.keep (HXX5.out.trans (HY6.out.mono hz45)) HZX.out;have pe:=(World.cell?_alloc_lt w6 (.cells #[] 42) ⟨w3.heap.size,3,none⟩ (World.block_lt_of_cell? w6 _ p3)).trans p3;go_upto_region 11 with(at_builtin;go_loud (refine ja rfl (.tmp 53) (.tmp 55) 25 rfl w6.heap.size 42 i0 (.agg #[.slice none 0 0,.slice none 0 0,.int .i64 0,.int .i64 0,.slice none 0 0,.int .i64 0,.int .i64 0,.slice none 0 0]) 8 128 Tryz.underlying25 hi hz0 hz1 hz2 rfl (by decide) _ 0 [] rfl (ka w6 _ 8) B3 x.methods.length j3 _ (qU Z) (by rw[q5r,HZN.out]) rfl (q42 HZL HZS _) (q5q _) (by unfold maxLen;omega) (by omega) (by simp) ?_);intro v7 w7 hown hgrow;have HB7:=zH (qA ((zb w6.heap.size w6).alloc (zn _) (.cells #[] 42)) (ka w6 42 8) (by simp) hgrow);obtain⟨Ay,cy,rfl⟩:=q4x hown;have HO7:Hid (w7.ownsRow w6.heap.size 42 8 (.slice Ay x.methods.length cy) x.methods.length (qU Z)):=zH (by simpa using hown);have HQ7:=zH (zf.keep HQ6.out HB7.out (zf.lt HQ6.out));have y3:=(zf.cells HQ7.out) 3 _ rfl;have fy:=zf.free HQ7.out 3;clear hown hgrow)
 have hNlt:w5.heap.size<w6.heap.size:=zf.lt HQ6.out;have HO8:=zH (ownsRow_setCell_below HO7.out (a:=⟨w5.heap.size,3,none⟩) hNlt (.slice Ay x.methods.length cy));have HQ8:Hid (zf (w7.setCell ⟨w5.heap.size,3,none⟩ (.slice Ay x.methods.length cy)) w5.heap.size [.slice B0 x.classes.length j0,.slice B1 x.statics.length j1,.slice B2 x.ints.length j2,.slice Ay x.methods.length cy,.slice B4 x.entries.length j4,.int .i64 x.stack,.int .i64 x.heap] 28):=zH (zf.set HQ7.out 3 (.slice Ay x.methods.length cy));have HY8:Hid (Below w5.heap.size w5 (w7.setCell ⟨w5.heap.size,3,none⟩ (.slice Ay x.methods.length cy))):=zH ((HY6.out.trans (HB7.out.mono HY6.out.size)).setCell (p:=⟨w5.heap.size,3,none⟩) (zn _) _);have HZK0:Hid (Z.length=x.methods.length∧Z.map (·.1)=m.methods.take 0++x.methods.drop 0∧∀z ∈Z,qy w5 w5.heap.size z.2 z.1):=zH ⟨HZN.out,by rw[HZF.out];simp,HZI.out⟩;clear y3 fy pe p0 p1 p2 p3 p4 p5 p6 HO7 HQ7 HB7 HQ6 HY6 HZL HZI HZF HZN HZS;generalize w7.setCell ⟨w5.heap.size,3,none⟩ (.slice Ay x.methods.length cy)=w8 at*
 obtain⟨gB,hgB⟩:∃z,w6.heap.size=z:=⟨_,rfl⟩
 rw[hgB]at HO8 hNlt;clear hgB;go_wp2_with fail
 go_loopw [12] (fun i wr=>∃(k:Nat) (Zk:List (ze×zS)),k≤x.methods.length∧i= .int .i64 k∧Hid (Zk.length=x.methods.length∧Zk.map (·.1)=m.methods.take k++x.methods.drop k∧∀z ∈Zk,qy w5 w5.heap.size z.2 z.1)∧Hid (wr.ownsRow gB 42 8 (.slice Ay x.methods.length cy) x.methods.length (qU Zk))∧Hid (zf wr w5.heap.size [.slice B0 x.classes.length j0,.slice B1 x.statics.length j1,.slice B2 x.ints.length j2,.slice Ay x.methods.length cy,.slice B4 x.entries.length j4,.int .i64 x.stack,.int .i64 x.heap] 28)∧Hid (Below w5.heap.size w5 wr)) (fun i _=>x.methods.length - (intOf i).toNat)
 case atStart=>exact⟨0,Z,Nat.zero_le _,rfl,HZK0,HO8,HQ8,HY8⟩
 case round=>
  clear HZK0 HO8 HQ8 HY8;obtain⟨k,Zk,hk,rfl,HZK,HO,HQ,HY⟩:=hrel;have HXr:=zH (HX5.out.trans (HY.out.mono hz15));have HXXr:=zH (HXX5.out.trans (HY.out.mono hz45));obtain⟨q0,q1,q2,q3,q4,q5,q6⟩:=HBX.out.keep HXr.out HZ.out;obtain⟨p0,p1,p2,p3,p4,p5,p6⟩:=HBXX.out.keep HXXr.out HZX.out;obtain⟨y0,y1,y2,y3,y4,y5,y6⟩:=qm (zf.cells HQ.out);by_cases hlt:k<x.methods.length;rotate_left
  ·have hki:¬(k:Int)<(x.methods.length:Int):=by omega
   have hkn:k=x.methods.length:=by omega
   have HIY:Hid (zp wr wr.heap.size ⟨B0,B1,B2,Ay,B4,j0,j1,j2,cy,j4⟩ ⟨x.classes,x.statics,x.ints,m.methods,x.entries,x.stack,x.heap⟩):=zH (by
    have h1:=HIX.out.now HXXr.out;have h2:=qlk HO.out HZK.out.1 (fun z hz=>(HZK.out.2.2 z hz).now HY.out);rw[HZK.out.2.1,hkn,List.drop_eq_nil_of_le (zn _),List.append_nil,HLX.out,List.take_length]at h2;exact⟨h1.classes,h1.statics,h1.ints,h2,h1.entries⟩)
   have HIm:Hid (zp wr wr.heap.size ⟨A0,Ab,A2,A3,A4,k0,k1,k2,k3,k4⟩ m):=zH (HI.out.now HXr.out);have HV:Hid (zr ⟨B0,B1,B2,Ay,B4,j0,j1,j2,cy,j4⟩ ⟨x.classes,x.statics,x.ints,m.methods,x.entries,x.stack,x.heap⟩= .agg #[.slice B0 x.classes.length j0,.slice B1 x.statics.length j1,.slice B2 x.ints.length j2,.slice Ay x.methods.length cy,.slice B4 x.entries.length j4,.int .i64 x.stack,.int .i64 x.heap]):=zH (by
    show Value.agg #[_,_,_,.slice Ay m.methods.length cy,_,_,_]=_;rw[HLX.out])
   have HD:Hid (decide ((⟨x.classes,x.statics,x.ints,m.methods,x.entries,x.stack,x.heap⟩:za)=m)=true):=zH (decide_eq_true (qgz HF.out.alike));have hmy:=HIY.out.methods.cap;by_cases hn0:x.methods.length=0
   ·have HV0:Hid (zr ⟨B0,B1,B2,Ay,B4,j0,j1,j2,cy,j4⟩ ⟨x.classes,x.statics,x.ints,m.methods,x.entries,x.stack,x.heap⟩= .agg #[.slice B0 x.classes.length j0,.slice B1 x.statics.length j1,.slice B2 x.ints.length j2,.slice Ay 0 cy,.slice B4 x.entries.length j4,.int .i64 x.stack,.int .i64 x.heap]):=zH (by rw[HV.out,hn0]);go_upto_region 18 with(go_at_call 19;go_loud (with_reducible refine(q5z HIY HIm HV0 HD).mono ?_);rintro e ws ⟨rfl,hb⟩;have HYs:=zj HY hb;have HQs:=zH (zf.keep HQ.out hb (zf.lt HQ.out));have HIYs:=zH (HIY.out.now hb);have HXs:=zj HXr hb;obtain⟨p0,p1,p2,p3,p4,p5,p6⟩:=HBXX.out.keep (HXXr.out.trans (hb.mono HXXr.out.size)) HZX.out;clear hb)
    clear p0 p1 p2 p3 p4 p5 p6 q0 q1 q2 q3 q4 q5 q6 y0 y1 y2 y3 y4 y5 y6;go_wp2_with(first
     |(go_at_call 9;(with_reducible refine(kh _).mono ?_);rintro e wa ⟨rfl,hb⟩;have HXa:=zj HXs hb;have HIYa:=zH (HIYs.out.now hb);have HIma:=zH (HI.out.now HXa.out);have HQa:=zH (zf.keep HQs.out hb (zf.lt HQs.out));obtain⟨q0,q1,q2,q3,q4,q5,q6⟩:=HBX.out.keep HXa.out HZ.out;obtain⟨y0,y1,y2,y3,y4,y5,y6⟩:=qm (zf.cells HQa.out);clear hb)
     |(go_at_call 19;(with_reducible refine(q5z HIYa HIma HV0 HD).mono ?_);rintro e wb ⟨rfl,hb⟩;have HXb:=zj HXa hb;clear hb))
    go_ret;exact⟨by first|rfl|simp,HW.out.trans (HXb.out.mono (Nat.le_of_lt HZ.out))⟩
   have hn1:((x.methods.length:Int)==0)=false:=by simpa using hn0
   go_upto_region 19 with(go_at_call 19;go_loud (with_reducible refine(q5z HIY HIm HV HD).mono ?_);rintro e ws ⟨rfl,hb⟩;have HXXs:=zj HXXr hb;have HXs:=zj HXr hb;obtain⟨p0,p1,p2,p3,p4,p5,p6⟩:=HBXX.out.keep HXXs.out HZX.out;clear hb)
   clear q0 q1 q2 q3 q4 q5 q6 y0 y1 y2 y3 y4 y5 y6 hn1;have hnp:0<x.methods.length:=by omega
   go_upto_region 20 with fail
   obtain⟨gN,hgN⟩:∃z:Nat,f % (x.methods.length:Int)=(z:Int):=⟨(f % (x.methods.length:Int)).toNat,by have:=Int.emod_nonneg f (b:=(x.methods.length:Int)) (by omega);omega⟩
   have hgn:gN<x.methods.length:=by have:=Int.emod_lt_of_pos f (b:=(x.methods.length:Int)) (by omega);omega
   simp only[hgN];clear hgN;obtain⟨adx,hmx,eX,habx,hinx,hcx⟩:=jB HIX.out hgn;obtain⟨gx,hgx⟩:∃g,x.methods[gN]=g:=⟨_,rfl⟩
   rw[hgx]at hinx hcx;have hxk:x.methods[gN]? =some gx:=by rw[List.getElem?_eq_getElem hgn,hgx]
   have hmem:gx ∈x.methods:=List.mem_of_getElem? hxk;have hgm:zm x (gN:Int)=gx:=by unfold zm;rw[Int.toNat_natCast,hxk];rfl
   have hphi:=HF.out.phi gx hmem;have hcp:=(HMX.out.method hmem).cp;have hcl:=(HMX.out.method hmem).fits.cl;obtain⟨np,hnpl⟩:∃z,gx.phi.length=z:=⟨_,rfl⟩
   have HNP:=zH hnpl;have hnp0:0<np:=by rw[←hnpl,hphi.1];exact hcp
   have hnp1:np≤64:=by rw[←hnpl,hphi.1];exact hcl
   have HPHI:=zH hphi;obtain⟨a0x,a1x,a4x,a7x,k0x,k1x,k4x,k7x⟩:=hmx;dsimp only at eX hmle hmcap;subst eX;have HPR:=zH hinx.phi;have x1:=hinx.phi.le;have x2:=hinx.phi.cap;dsimp only at x1 x2;rw[hnpl]at x1;have HCX:=zH hcx;have HINX:=zH hinx;have HABX:=zH habx;have cx7:=(HXXs.out.cell (p:=zc (adx.add (gN*8)) 7) (by show(adx.add _).block<_;rw[zt];exact habx)).trans hcx.c7;dsimp only at cx7;rw[hnpl]at cx7;have hnp2:0<(np:Int):=by omega
   clear hcx hinx hphi hcp hcl hnpl habx;go_upto_region 21 with fail
   obtain⟨pN,hpN⟩:∃z:Nat,pc % (np:Int)=(z:Int):=⟨(pc % (np:Int)).toNat,by have:=Int.emod_nonneg pc (b:=(np:Int)) (by omega);omega⟩
   have hpn:pN<np:=by have:=Int.emod_lt_of_pos pc (b:=(np:Int)) (by omega);omega
   simp only[hpN];clear hpN;have hpl:pN<gx.phi.length:=by rw[HNP.out];exact hpn
   obtain⟨pA,eP,hpb,hph⟩:=HPR.out.row.at_ hpl;dsimp only at eP;subst eP;obtain⟨v,hv⟩:∃z,gx.phi[pN]=z:=⟨_,rfl⟩
   have hvp:zM gx (pN:Int)=v:=by unfold zM;rw[Int.toNat_natCast,List.getElem?_eq_getElem hpl,←hv];rfl
   have hvb:=HPHI.out.2.1 gx.phi[pN] (List.getElem_mem hpl);rw[hv]at hvb;have hph:w4.cell? (pA.add pN)=some (.int .i64 v):=by
    have h1:w4.cell? (pA.add (pN*1))=some (.int .i64 gx.phi[pN]):=hph;rw[hv,Nat.mul_one]at h1;exact h1
   have cpp:=(HXXs.out.cell (p:=pA.add pN) (by rw[zt];exact hpb)).trans hph;by_cases hv0:v=0
   ·have hvi:(v==0)=true:=by simp[hv0]
    go_wp2_with(go_at_call 9;(with_reducible refine(kh _).mono ?_);rintro e wa ⟨rfl,hb⟩;have HXa:=zj HXs hb;clear hb)
    go_ret;exact⟨by first|rfl|simp,HW.out.trans (HXa.out.mono (Nat.le_of_lt HZ.out))⟩
   have hvi:(v==0)=false:=by simpa using hv0
   go_upto_region 23 with fail
   clear cpp cx7 hvi;have HLESS:Hid (qZ (kF x gN pN) l=(gN:Int)):=zH (HF.out.less hgn (by rw[hgm,←HPHI.out.1,HNP.out];exact hpn) (by rw[hgm,hvp];exact hv0));have HLB:Hid (zC (kF x gN pN)=zC x):=zH (qaq hgn);have HLM:Hid (ve gx pN={gx with phi:=gx.phi.set pN (v - 1)}):=zH (by unfold ve;rw[hvp]);have HLP:Hid (q0f (ve gx pN)):=zH (by
    rw[HLM.out];refine⟨by rw[List.length_set];exact HPHI.out.1,fun t ht=> ?_,HPHI.out.2.2⟩;rcases List.mem_or_eq_of_mem_set ht with q|q
    ·exact HPHI.out.2.1 t q
    ·omega)
   have HMZ:Hid (zP (kF x gN pN)):=zH (YP HLB.out HMX.out (fun g hg=>by
    unfold kF at hg;rcases List.mem_or_eq_of_mem_set hg with q|q
    ·exact HF.out.phi g q
    ·rw[q,hgm];exact HLP.out))
   have hss:=HXXs.out.size;have hss1:=HXs.out.size;have HIXs:=zH (HIX.out.now HXXs.out);have HTs:=zH (HT4.out.now HXXs.out);have HTZ:=zH (q7t HTs.out (HLB.out.trans HF.out.alike));have HQz0:Hid (zf (ws.alloc (zq ⟨B0,B1,B2,some adx,B4,j0,j1,j2,j3,j4⟩ x)) ws.heap.size [.slice B0 x.classes.length j0,.slice B1 x.statics.length j1,.slice B2 x.ints.length j2,.slice (some adx) x.methods.length j3,.slice B4 x.entries.length j4,.int .i64 x.stack,.int .i64 x.heap] 28):=zH (zf.new ws [.slice B0 x.classes.length j0,.slice B1 x.statics.length j1,.slice B2 x.ints.length j2,.slice (some adx) x.methods.length j3,.slice B4 x.entries.length j4,.int .i64 x.stack,.int .i64 x.heap] 28);have HYz0:Hid (Below ws.heap.size ws (ws.alloc (zq ⟨B0,B1,B2,some adx,B4,j0,j1,j2,j3,j4⟩ x))):=zH ko;go_upto_region 24 with fail
   clear p0 p1 p2 p3 p4 p5 p6;generalize ws.alloc (zq ⟨B0,B1,B2,some adx,B4,j0,j1,j2,j3,j4⟩ x)=wz at*
   obtain⟨Z,hZf,hZl,hZi⟩:=q63 HIXs.out.methods.row;have hZn:Z.length=x.methods.length:=by rw[←hZf,List.length_map]
   have HZL:Hid (zz wz wz.heap.size (some adx) (qU Z)):=zH ((hZl.below HYz0.out).more HYz0.out.size);have HZI:Hid (∀z ∈Z,qy ws ws.heap.size z.2 z.1):=zH hZi;have HZF:=zH hZf;have HZN:=zH hZn;have HZS:Hid (wz.heap.size≤wz.heap.size):=zH (zn _);clear hZf hZl hZi hZn;obtain⟨p0,p1,p2,p3,p4,p5,p6⟩:=HBXX.out.keep (HXXs.out.trans (HYz0.out.mono hss)) HZX.out;have pe:=(World.cell?_alloc_lt wz (.cells #[] 42) ⟨w3.heap.size,3,none⟩ (World.block_lt_of_cell? wz _ p3)).trans p3;go_upto_region 25 with(at_builtin;go_loud (refine ja rfl (.tmp 163) (.tmp 165) 25 rfl wz.heap.size 42 i0 (.agg #[.slice none 0 0,.slice none 0 0,.int .i64 0,.int .i64 0,.slice none 0 0,.int .i64 0,.int .i64 0,.slice none 0 0]) 8 128 Tryz.underlying25 hi hz0 hz1 hz2 rfl (by decide) _ 0 [] rfl (ka wz _ 8) (some adx) x.methods.length j3 _ (qU Z) (by rw[q5r,HZN.out]) rfl (q42 HZL HZS _) (q5q _) (by unfold maxLen;omega) (by omega) (by simp) ?_);intro v7 w7 hown hgrow;have HB7:=zH (qA ((zb wz.heap.size wz).alloc (zn _) (.cells #[] 42)) (ka wz 42 8) (by simp) hgrow);obtain⟨Az,cz,rfl⟩:=q4x hown;have hz7:w7.ownsRow wz.heap.size 42 8 (.slice Az x.methods.length cz) x.methods.length (qU Z):=(by simpa using hown);obtain⟨gz,rfl⟩:=q4w hz7 hnp;have HO7:=zH hz7;have HQ7:=zH (zf.keep HQz0.out HB7.out (zf.lt HQz0.out));have z3:=(zf.cells HQ7.out) 3 _ rfl;have fz:=zf.free HQ7.out 3;clear hown hgrow hz7)
   have hNlt:ws.heap.size<wz.heap.size:=zf.lt HQz0.out;have HO8:=zH (ownsRow_setCell_below HO7.out (a:=⟨ws.heap.size,3,none⟩) hNlt (.slice (some ⟨gz,0,none⟩) x.methods.length cz));have HQ8:Hid (zf (w7.setCell ⟨ws.heap.size,3,none⟩ (.slice (some ⟨gz,0,none⟩) x.methods.length cz)) ws.heap.size [.slice B0 x.classes.length j0,.slice B1 x.statics.length j1,.slice B2 x.ints.length j2,.slice (some ⟨gz,0,none⟩) x.methods.length cz,.slice B4 x.entries.length j4,.int .i64 x.stack,.int .i64 x.heap] 28):=zH (zf.set HQ7.out 3 (.slice (some ⟨gz,0,none⟩) x.methods.length cz));have HY8:Hid (Below ws.heap.size ws (w7.setCell ⟨ws.heap.size,3,none⟩ (.slice (some ⟨gz,0,none⟩) x.methods.length cz))):=zH ((HYz0.out.trans (HB7.out.mono HYz0.out.size)).setCell (p:=⟨ws.heap.size,3,none⟩) (zn _) _);clear z3 fz pe p0 p1 p2 p3 p4 p5 p6 HO7 HQ7 HB7 HQz0 HYz0 HZL HZS;generalize w7.setCell ⟨ws.heap.size,3,none⟩ (.slice (some ⟨gz,0,none⟩) x.methods.length cz)=w8 at*
   obtain⟨gB,hgB⟩:∃z,wz.heap.size=z:=⟨_,rfl⟩
   rw[hgB]at HO8 hNlt;clear hgB;obtain⟨i1,hi1,hy0,hy1,hy2⟩:=jg kp;have hgz:=(kn HO8.out 0).2;have hs8:=HY8.out.size;have HXX8:=zH (HXXs.out.trans (HY8.out.mono hss));obtain⟨p0,p1,p2,p3,p4,p5,p6⟩:=HBXX.out.keep HXX8.out HZX.out;have z3:=(zf.cells HQ8.out) 3 _ rfl;have cx7:=(HXX8.out.cell (p:=zc (adx.add (gN*8)) 7) (by show(adx.add _).block<_;rw[zt];exact HABX.out)).trans HCX.out.c7;dsimp only at cx7;rw[HNP.out]at cx7;have hZk:gN<Z.length:=by rw[HZN.out];exact hgn
   obtain⟨z,hz⟩:∃z,Z[gN]? =some z:=⟨_,List.getElem?_eq_getElem hZk⟩
   have hz1:z.1=gx:=by
    have h1:=congrArg (fun L=>L[gN]?) HZF.out;simp only[List.getElem?_map,hz,Option.map_some]at h1;rw[hxk]at h1;injection h1
   have HPL:Hid (zz w8 w8.heap.size (some pA) (gx.phi.map (Value.int .i64))):=zH ((qm7 HPR.out).below_to HXX8.out (zn _)|>.more HXX8.out.size);have HKP:Hid (∀W,Below w8.heap.size w8 W→(fun w'=>w'.cell? ⟨ws.heap.size,3,none⟩=some (.slice (some ⟨gz,0,none⟩) x.methods.length cz)∧w'.cell? ⟨w3.heap.size,3,none⟩=some (.slice (some adx) x.methods.length j3)∧w'.cell? (zc (adx.add (gN*8)) 7)=some (.slice (some pA) np k7x)) W):=zH (fun W hW=>⟨(hW.cell (p:=⟨ws.heap.size,3,none⟩) (zf.lt HQ8.out)).trans z3,(hW.cell (p:=⟨w3.heap.size,3,none⟩) (World.block_lt_of_cell? w8 _ p3)).trans p3,(hW.cell (p:=zc (adx.add (gN*8)) 7) (World.block_lt_of_cell? w8 _ cx7)).trans cx7⟩);have HKS:Hid (∀W,Below w8.heap.size w8 W→∀v:Value,(fun w'=>w'.cell? ⟨ws.heap.size,3,none⟩=some (.slice (some ⟨gz,0,none⟩) x.methods.length cz)∧w'.cell? ⟨w3.heap.size,3,none⟩=some (.slice (some adx) x.methods.length j3)∧w'.cell? (zc (adx.add (gN*8)) 7)=some (.slice (some pA) np k7x)) (W.setCell ⟨gz,gN*8+7,none⟩ v)):=zH (fun W hW v=>by
    obtain⟨h1,h2,h3⟩:=HKP.out W hW;have far:∀a:Addr,¬a.block=gz→(W.setCell ⟨gz,gN*8+7,none⟩ v).cell? a=W.cell? a:=fun a ha=>World.cell?_of_block (w:=W) (Below.heap_setCell W ⟨gz,gN*8+7,none⟩ v a.block ha);exact⟨(far _ (by show ¬ws.heap.size=gz;have:=hgz.1;omega)).trans h1,(far _ (by show ¬w3.heap.size=gz;have:=hgz.1;have:=HZX.out;omega)).trans h2,(far _ (by show ¬(adx.add (gN*8)).block=gz;rw[zt];have:=hgz.1;have:=HABX.out;omega)).trans h3⟩)
   clear p0 p1 p2 p4 p5 p6;refine wp_region_noPanic ?_;refine wp_region_held_drew (S:=(fun w'=>w'.cell? ⟨ws.heap.size,3,none⟩=some (.slice (some ⟨gz,0,none⟩) x.methods.length cz)∧w'.cell? ⟨w3.heap.size,3,none⟩=some (.slice (some adx) x.methods.length j3)∧w'.cell? (zc (adx.add (gN*8)) 7)=some (.slice (some pA) np k7x))) (by kernel_rfl) ⟨z3,p3,cx7⟩ (fun hHeld=> ?_);refine mT 0 (h:=mT 1 (h:=mT 2 (h:=mT 4 (h:=mT 5 (h:=mT 6 (h:=mT 7 (h:=mT 8 (h:= ?_))))))));refine mT 9 (h:= ?_);refine wpAnyH_ready (rs:=[3]) (by kernel_rfl) (by simp) ?_;refine AllReadyH.cons (o:=_) rfl (fun K hK=> ?_) AllReadyH.nil;go_simp;refine hK.out _ _ (HKP.out _ ((zb w8.heap.size w8).drew.alloc (zn _) _)) (fun hHeld=> ?_);clear hK K;try simp only[sA,sB,sC,Act.put,sD,sE,sF]
   refine wpAnyH_ready (rs:=[10]) (by kernel_rfl) (by simp) ?_;refine AllReadyH.cons (o:=_) rfl (fun K hK=> ?_) AllReadyH.nil
   (refine Qy rfl _ _ 26 rfl w8.heap.size 3 i1 (.int .i64 0) 1 8 Tryz.underlying26 hi1 hy0 hy1 hy2 rfl (by decide) _ 0 [] rfl (ka w8.drew 3 1) (some pA) np k7x _ (gx.phi.map (Value.int .i64)) (by rw[List.length_map,HNP.out,Nat.mul_one]) rfl (q42 (w:=w8.drew) (zH HPL.out) (zH (zn _)) _) (qm4 _) (by unfold maxLen;omega) (by omega) (by simp) ?_;intro v9 w9 hown hgrow;have hb9:Below w8.heap.size w8 w9:=(zb w8.heap.size w8).drew.trans (qA ((zb w8.heap.size w8.drew).alloc (zn _) (.cells #[] 3)) (ka w8.drew 3 1) (by simp) hgrow);obtain⟨A9,c9,rfl⟩:=q4x hown;have ho9:w9.ownsRow w8.heap.size 3 1 (.slice A9 np c9) np (gx.phi.map (Value.int .i64)):=(by simpa using hown);obtain⟨g9,rfl⟩:=q4w ho9 hnp0;have HP9:=zH ho9;have HB9:=zH hb9;have HO9:=zH (qG HO8.out hb9 (qi HO8.out));have o7:=((kb HO9.out).2 (gN*8+7) _ (JE hz (by decide))).1;have g7:=(kn HO9.out (gN*8+7)).1;clear hown hgrow ho9 hb9)
   refine hK.out _ _ (HKP.out _ HB9.out) (fun hHeld=> ?_);clear hK K;try simp only[sA,sB,sC,Act.put,sD,sE,sF]
   refine mT 11 (h:=mT 12 (h:= ?_));refine wpAnyH_ready (rs:=[13]) (by kernel_rfl) (by simp) ?_;refine AllReadyH.cons (o:=_) rfl (fun K hK=> ?_) AllReadyH.nil;go_simp;refine hK.out _ _ (HKS.out _ HB9.out _) (fun hHeld=> ?_);clear hK K;try simp only[sA,sB,sC,Act.put,sD,sE,sF]
   refine wpAnyH_done (by kernel_rfl) ?_ _;refine NoPanic.normal ?_;obtain⟨zg,zh⟩:=z;have hz1:zg=gx:=hz1;have hz:Z[gN]? =some (gx,zh):=by rw[←hz1];exact hz
   clear o7 g7 z3 p3 cx7 hz1;try clear hHeld
   have hel:(ve gx pN).phi.length=np:=by rw[HLM.out];show(gx.phi.set pN (v - 1)).length=np;rw[List.length_set,HNP.out]
   have hy:jz (ve gx pN,⟨zh.A0,zh.A1,zh.A4,some ⟨g9,0,none⟩,zh.k0,zh.k1,zh.k4,c9⟩)=(jz (gx,zh)).set 7 (.slice (some ⟨g9,0,none⟩) np c9):=by
    show [_,_,_,_,_,_,_,Value.slice (some ⟨g9,0,none⟩) (ve gx pN).phi.length c9]=_;rw[hel];rfl
   have hy7:(jz (ve gx pN,(⟨zh.A0,zh.A1,zh.A4,some ⟨g9,0,none⟩,zh.k0,zh.k1,zh.k4,c9⟩:zS)))[7]? =some (.slice (some ⟨g9,0,none⟩) np c9):=by rw[hy];rfl
   have HZ2:Hid ((Z.set gN (ve gx pN,(⟨zh.A0,zh.A1,zh.A4,some ⟨g9,0,none⟩,zh.k0,zh.k1,zh.k4,c9⟩:zS)))[gN]? =some (ve gx pN,⟨zh.A0,zh.A1,zh.A4,some ⟨g9,0,none⟩,zh.k0,zh.k1,zh.k4,c9⟩)):=zH (by rw[List.getElem?_set,if_pos rfl,if_pos hZk]);have HOz:Hid ((w9.setCell ⟨gz,gN*8+7,none⟩ (.slice (some ⟨g9,0,none⟩) np c9)).ownsRow gB 42 8 (.slice (some ⟨gz,0,none⟩) x.methods.length cz) x.methods.length (qU (Z.set gN (ve gx pN,⟨zh.A0,zh.A1,zh.A4,some ⟨g9,0,none⟩,zh.k0,zh.k1,zh.k4,c9⟩)))):=zH (by
    have h1:=Vn (j:=gN*8+7) HO9.out (.slice (some ⟨g9,0,none⟩) np c9);rw[q2h hz (by decide) hy]at h1;exact h1)
   have hgz1:=hgz.1;have hgz2:=hgz.2;have HPz:=zH (ownsRow_setCell_below HP9.out (a:=⟨gz,gN*8+7,none⟩) hgz2 (.slice (some ⟨g9,0,none⟩) np c9));have hg9:=(kn HP9.out 0).2.1;have HQz:Hid (zf (w9.setCell ⟨gz,gN*8+7,none⟩ (.slice (some ⟨g9,0,none⟩) np c9)) ws.heap.size [.slice B0 x.classes.length j0,.slice B1 x.statics.length j1,.slice B2 x.ints.length j2,.slice (some ⟨gz,0,none⟩) x.methods.length cz,.slice B4 x.entries.length j4,.int .i64 x.stack,.int .i64 x.heap] 28):=zH (vJ (zf.keep HQ8.out HB9.out (zf.lt HQ8.out)) (a:=⟨gz,gN*8+7,none⟩) (by show ¬ws.heap.size=gz;omega) _);have HYz:Hid (Below ws.heap.size ws (w9.setCell ⟨gz,gN*8+7,none⟩ (.slice (some ⟨g9,0,none⟩) np c9))):=zH ((HY8.out.trans (HB9.out.mono hs8)).setCell (p:=⟨gz,gN*8+7,none⟩) (by show ws.heap.size≤gz;omega) _);go_upto_region 26 with fail
   clear HO9 HP9 HO8 HQ8 HY8 HB9 HKP HKS HPL;generalize w9.setCell ⟨gz,gN*8+7,none⟩ (.slice (some ⟨g9,0,none⟩) np c9)=wd at*
   have z3:=(zf.cells HQz.out) 3 _ rfl;have r7:=((kb HOz.out).2 (gN*8+7) (.slice (some ⟨g9,0,none⟩) np c9) (by rw[JE HZ2.out (by decide)];exact hy7)).1;have r9:=((kb HPz.out).2 pN (.int .i64 v) (by rw[List.getElem?_map,List.getElem?_eq_getElem hpl,hv];rfl)).1;have f9:=(kn HPz.out pN).1;obtain⟨hv0',hv1'⟩:=hvb;go_upto_region 27 with fail
   have HPw:=zH (Vn (j:=pN) HPz.out (.int .i64 (v - 1)));have HOw:Hid ((wd.setCell ⟨g9,pN,none⟩ (.int .i64 (v - 1))).ownsRow gB 42 8 (.slice (some ⟨gz,0,none⟩) x.methods.length cz) x.methods.length (qU (Z.set gN (ve gx pN,⟨zh.A0,zh.A1,zh.A4,some ⟨g9,0,none⟩,zh.k0,zh.k1,zh.k4,c9⟩)))):=zH (qG HOz.out ((zb w8.heap.size wd).setCell (p:=⟨g9,pN,none⟩) hg9 _) (fun g e=>by
    have e:some gz=some g:=e;injection e with e;omega))
   have HQw:Hid (zf (wd.setCell ⟨g9,pN,none⟩ (.int .i64 (v - 1))) ws.heap.size [.slice B0 x.classes.length j0,.slice B1 x.statics.length j1,.slice B2 x.ints.length j2,.slice (some ⟨gz,0,none⟩) x.methods.length cz,.slice B4 x.entries.length j4,.int .i64 x.stack,.int .i64 x.heap] 28):=zH (vJ HQz.out (a:=⟨g9,pN,none⟩) (by show ¬ws.heap.size=g9;omega) _);have HYw:Hid (Below ws.heap.size ws (wd.setCell ⟨g9,pN,none⟩ (.int .i64 (v - 1)))):=zH (HYz.out.setCell (p:=⟨g9,pN,none⟩) (by show ws.heap.size≤g9;omega) _);clear z3 r7 r9 f9 HPz HOz HQz HYz;generalize wd.setCell ⟨g9,pN,none⟩ (.int .i64 (v - 1))=wf at*
   have HIz:Hid (zp wf wf.heap.size ⟨B0,B1,B2,some ⟨gz,0,none⟩,B4,j0,j1,j2,cz,j4⟩ (kF x gN pN)):=zH (by
    have h1:=HIXs.out.now HYw.out;have hph:zd zo 1 wf wf.heap.size (some ⟨g9,0,none⟩) c9 (ve gx pN).phi:=by
     have hp:=HPw.out;rw[←List.map_set]at hp;have hlen:(gx.phi.set pN (v - 1)).length=np:=by rw[List.length_set,HNP.out]
     rw[←hlen]at hp;obtain⟨A',c',e1,hl,a1,a2⟩:=kM hp;injection e1 with e1 _ e2;subst e1 e2;rw[HLM.out];exact⟨a1,a2,fun i y hi=>by
      obtain⟨ad,e,hb,hc⟩:=hl i (.int .i64 y) (by rw[List.getElem?_map,hi];rfl);exact⟨ad,e,hb,by show wf.cell? (ad.add (i*1))=_;rw[Nat.mul_one];exact hc⟩⟩
    have h2:=q2e HOw.out (by rw[List.length_set];exact HZN.out) (fun z hz'=>by
     rcases List.mem_or_eq_of_mem_set hz' with q|q
     ·exact(HZI.out z q).now HYw.out
     ·have h3:=(HZI.out _ (List.mem_of_getElem? hz)).now HYw.out;rw[q];exact⟨h3.args,h3.locals,h3.code,hph⟩)
    have h4:(Z.set gN (ve gx pN,(⟨zh.A0,zh.A1,zh.A4,some ⟨g9,0,none⟩,zh.k0,zh.k1,zh.k4,c9⟩:zS))).map (·.1)=(kF x gN pN).methods:=by
     rw[List.map_set,HZF.out];unfold kF;rw[hgm]
    rw[h4]at h2;exact⟨h1.classes,h1.statics,h1.ints,h2,h1.entries⟩)
   have HVz:Hid (zr ⟨B0,B1,B2,some ⟨gz,0,none⟩,B4,j0,j1,j2,cz,j4⟩ (kF x gN pN)= .agg #[.slice B0 x.classes.length j0,.slice B1 x.statics.length j1,.slice B2 x.ints.length j2,.slice (some ⟨gz,0,none⟩) x.methods.length cz,.slice B4 x.entries.length j4,.int .i64 x.stack,.int .i64 x.heap]):=zH (by
    show Value.agg #[_,_,_,.slice (some ⟨gz,0,none⟩) (x.methods.set gN (ve (zm x (gN:Int)) pN)).length cz,_,_,_]=_;rw[List.length_set];rfl)
   have HTw:=zH (HTZ.out.now HYw.out);have HXw:=zH (HXs.out.trans (HYw.out.mono hss1));have hgg:((gN:Int)==(gN:Int))=true:=by simp
   go_wp2_with(first
    |(go_at_call 9;(with_reducible refine(kh _).mono ?_);rintro e wa ⟨rfl,hb⟩;have HXa:=zj HXw hb;have HIa:=zH (HIz.out.now hb);have HTa:=zH (HTw.out.now hb);have HQa:=zH (zf.keep HQw.out hb (zf.lt HQw.out));obtain⟨y0,y1,y2,y3,y4,y5,y6⟩:=qm (zf.cells HQa.out);clear hb)
    |(go_at_call 11;go_loud (with_reducible refine(qqs HIa HMZ HTa HLL HVz HLESS).mono ?_);rintro e wb ⟨rfl,hb⟩;have HXb:=zj HXa hb;clear hb))
   go_ret;exact⟨by first|rfl|simp,HW.out.trans (HXb.out.mono (Nat.le_of_lt HZ.out))⟩
  have hki:(k:Int)<(x.methods.length:Int):=by omega
  have hkm:k<m.methods.length:=by have:=HLX.out;omega
  obtain⟨adx,hmx,eX,habx,hinx,hcx⟩:=jB HIX.out hlt;obtain⟨adm,hmm,eM,habm,hinm,hcm⟩:=jB HI.out hkm;have hZk:k<Zk.length:=by rw[HZK.out.1];exact hlt
  obtain⟨z,hz⟩:∃z,Zk[k]? =some z:=⟨_,List.getElem?_eq_getElem hZk⟩
  obtain⟨gx,hgx⟩:∃g,x.methods[k]=g:=⟨_,rfl⟩
  obtain⟨gm,hgm⟩:∃g,m.methods[k]=g:=⟨_,rfl⟩
  rw[hgx]at hinx hcx;rw[hgm]at hinm hcm;have hxk:x.methods[k]? =some gx:=by rw[List.getElem?_eq_getElem hlt,hgx]
  have hmk:m.methods[k]? =some gm:=by rw[List.getElem?_eq_getElem hkm,hgm]
  have hmem:gx ∈x.methods:=List.mem_of_getElem? hxk;have hbare:qa gm=qa gx:=by
   obtain⟨g0,h1,h2⟩:=qch HF.out.alike hxk;rw[hmk]at h1;injection h1 with h1;rw[h1];exact h2
  have hz1:z.1=gx:=by
   have h1:=congrArg (fun L=>L[k]?) HZK.out.2.1;simp only[List.getElem?_map,hz,Option.map_some]at h1;rw[List.getElem?_append_right (by rw[List.length_take];omega),List.length_take,Nat.min_eq_left (by omega),Nat.sub_self,List.getElem?_drop,Nat.add_zero,hxk]at h1;injection h1
  have hphi:=HF.out.phi gx hmem;have hpot:=HF.out.pot gx hmem;have hcode:gx.code=gm.code:=show(qa gx).code=(qa gm).code by rw[hbare]
  have hcp:=(HMX.out.method hmem).cp;have hl:gx.phi.length=gm.code.length:=by rw[hphi.1,hcode]
  have hne1:((gx.phi.length:Int) !=(gm.code.length:Int))=false:=bne_eq_false_iff_eq.mpr (by omega);have hpl:0<gx.phi.length:=by rw[hphi.1];exact hcp
  obtain⟨a0x,a1x,a4x,a7x,k0x,k1x,k4x,k7x⟩:=hmx;obtain⟨a0m,a1m,a4m,a7m,k0m,k1m,k4m,k7m⟩:=hmm;obtain⟨pA,eP,hpb,hph⟩:=hinx.phi.row.at_ hpl;have hpv:gx.phi[0]=gx.pot:=by
   rw[hpot];unfold zM;rw[show(0:Int).toNat=0 from rfl,List.getElem?_eq_getElem hpl];rfl
  have hph:w4.cell? pA=some (.int .i64 gx.pot):=by
   have h1:w4.cell? (pA.add (0*1))=some (.int .i64 gx.phi[0]):=hph;rw[hpv,Nat.zero_mul,show pA.add 0=pA by simp[Addr.add]]at h1;exact h1
  have hpp:(gx.pot !=gx.pot)=false:=by simp
  dsimp only at eX eM eP hmle hmcap hmle2 hmcap2;subst eX eM eP;have x1:=hinx.phi.le;have x2:=hinx.phi.cap;have x3:=hinm.code.le;have x4:=hinm.code.cap;have x5:=hinm.phi.le;have x6:=hinm.phi.cap;dsimp only at x1 x2 x3 x4 x5 x6;have cp0:=(HXXr.out.cell (p:=pA) hpb).trans hph;have cx6:=(HXXr.out.cell (p:=zc (adx.add (k*8)) 6) (by show(adx.add _).block<_;rw[zt];exact habx)).trans hcx.c6;have cx7:=(HXXr.out.cell (p:=zc (adx.add (k*8)) 7) (by show(adx.add _).block<_;rw[zt];exact habx)).trans hcx.c7;have cm4:=(HXr.out.cell (p:=zc (adm.add (k*8)) 4) (by show(adm.add _).block<_;rw[zt];exact habm)).trans hcm.c4;dsimp only at cx6 cx7 cm4;clear hph hpv hphi hpot hcode hcp hl;go_upto_region 14 with fail
  go_quiet (fail)
  go_upto_region 16 with fail
  have HYd:Hid (Below w5.heap.size w5 (wr.drewN nq)):=zH (jf HY.out nq);have HOd:Hid ((wr.drewN nq).ownsRow gB 42 8 (.slice Ay x.methods.length cy) x.methods.length (qU Zk)):=zH HO.out;have HQd:Hid (zf (wr.drewN nq) w5.heap.size [.slice B0 x.classes.length j0,.slice B1 x.statics.length j1,.slice B2 x.ints.length j2,.slice Ay x.methods.length cy,.slice B4 x.entries.length j4,.int .i64 x.stack,.int .i64 x.heap] 28):=zH HQ.out;clear q0 q1 q2 q3 q4 q5 q6 p0 p1 p2 p3 p4 p5 p6 y0 y1 y2 y3 y4 y5 y6 cp0 cx6 cx7 cm4 HXr HXXr HY HO HQ hne1 hpp;generalize wr.drewN nq=wd at*
  obtain⟨gy,rfl⟩:=q4w HOd.out (by omega);have HXd:=zH (HX5.out.trans (HYd.out.mono hz15));obtain⟨q0,q1,q2,q3,q4,q5,q6⟩:=HBX.out.keep HXd.out HZ.out;have y3:=(zf.cells HQd.out) 3 _ rfl;have cm7:=(HXd.out.cell (p:=zc (adm.add (k*8)) 7) (by show(adm.add _).block<_;rw[zt];exact habm)).trans hcm.c7;have cm6:=(HXd.out.cell (p:=zc (adm.add (k*8)) 6) (by show(adm.add _).block<_;rw[zt];exact habm)).trans hcm.c6;dsimp only at cm7 cm6;have o7:=((kb HOd.out).2 (k*8+7) _ (JE hz (by decide))).1;have o6:=((kb HOd.out).2 (k*8+6) _ (JE hz (by decide))).1;have g7:=(kn HOd.out (k*8+7)).1;have g6:=(kn HOd.out (k*8+6)).1;go_region
  all_goals
   obtain⟨zg,zh⟩:=z;have hz1:zg=gx:=hz1;subst hz1;have HOn:Hid (((wd.setCell ⟨gy,k*8+7,none⟩ (.slice a7m gm.phi.length k7m)).setCell ⟨gy,k*8+6,none⟩ (.int .i64 gm.pot)).ownsRow gB 42 8 (.slice (some ⟨gy,0,none⟩) x.methods.length cy) x.methods.length (qU (Zk.set k (gm,⟨zh.A0,zh.A1,zh.A4,a7m,zh.k0,zh.k1,zh.k4,k7m⟩)))):=zH (by
    have h1:=Vn (j:=k*8+6) (Vn (j:=k*8+7) HOd.out (.slice a7m gm.phi.length k7m)) (.int .i64 gm.pot);rw[qlx hz hbare]at h1;exact h1)
   have hgyB:=(kn HOd.out 0).2.1;have HQn:Hid (zf ((wd.setCell ⟨gy,k*8+7,none⟩ (.slice a7m gm.phi.length k7m)).setCell ⟨gy,k*8+6,none⟩ (.int .i64 gm.pot)) w5.heap.size [.slice B0 x.classes.length j0,.slice B1 x.statics.length j1,.slice B2 x.ints.length j2,.slice (some ⟨gy,0,none⟩) x.methods.length cy,.slice B4 x.entries.length j4,.int .i64 x.stack,.int .i64 x.heap] 28):=zH (vJ (vJ HQd.out (a:=⟨gy,k*8+7,none⟩) (by show ¬w5.heap.size=gy;omega) _) (a:=⟨gy,k*8+6,none⟩) (by show ¬w5.heap.size=gy;omega) _);have HYn:Hid (Below w5.heap.size w5 ((wd.setCell ⟨gy,k*8+7,none⟩ (.slice a7m gm.phi.length k7m)).setCell ⟨gy,k*8+6,none⟩ (.int .i64 gm.pot))):=zH ((HYd.out.setCell (p:=⟨gy,k*8+7,none⟩) (by show w5.heap.size≤gy;omega) _).setCell (p:=⟨gy,k*8+6,none⟩) (by show w5.heap.size≤gy;omega) _);have HZn:Hid ((Zk.set k (gm,⟨zh.A0,zh.A1,zh.A4,a7m,zh.k0,zh.k1,zh.k4,k7m⟩)).length=x.methods.length∧(Zk.set k (gm,(⟨zh.A0,zh.A1,zh.A4,a7m,zh.k0,zh.k1,zh.k4,k7m⟩:zS))).map (·.1)=m.methods.take (k+1)++x.methods.drop (k+1)∧∀z ∈Zk.set k (gm,⟨zh.A0,zh.A1,zh.A4,a7m,zh.k0,zh.k1,zh.k4,k7m⟩),qy w5 w5.heap.size z.2 z.1):=zH (by
    refine⟨by rw[List.length_set];exact HZK.out.1,?_,fun z hz'=> ?_⟩
    ·rw[List.map_set,HZK.out.2.1];exact qnk hmk hlt
    ·rcases List.mem_or_eq_of_mem_set hz' with q|q
     ·exact HZK.out.2.2 z q
     ·rw[q];exact qhq (h:=zh) (hm:=⟨a0m,a1m,a4m,a7m,k0m,k1m,k4m,k7m⟩) hbare (HZK.out.2.2 _ (List.mem_of_getElem? hz)) (hinm.now HX5.out))
   clear o6 o7 g6 g7 q0 q1 q2 q3 q4 q5 q6 y3 cm6 cm7;go_wp2_with fail
   go_roundw;case rel=>exact⟨k+1,_,by omega,by go_num,HZn,HOn,HQn,zH HYn.out.drew⟩
   case measure=>simp[intOf];omega
end Go.Proofs.YtdbfllajopcccaaGreat
