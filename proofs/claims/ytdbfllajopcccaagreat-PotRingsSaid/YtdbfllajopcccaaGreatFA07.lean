import Derived.Test.YtdbfllajopcccaaGreatFA04
import Derived.Lib.AppendZeros
import Derived.Test.YtdbfllajopcccaaGreatFA05
namespace Go.Proofs.YtdbfllajopcccaaGreat
set_option maxRecDepth 100000
set_option linter.unusedVariables false
set_option linter.unusedSimpArgs false
open Go.ChangeShapes Go.WideShapes Go.ChangeAt Go.RowKit
abbrev qD(h:zl)(m:za)(op a b:Int)(w:World):World:=(w.alloc (zq h m)).alloc (.cells #[.int .i64 op,.int .i64 a,.int .i64 b] 45)
structure q6o(w1:World)(N:Nat)(h:zl)(m:za)(op a b:Int):Prop where
 img:Zl w1 N h m
 ins:zT w1 (N+1) [.int .i64 op,.int .i64 a,.int .i64 b]
 size:w1.heap.size=N+1+1
theorem q4f(h:zl)(m:za)(op a b:Int)(w:World):Below w.heap.size w (qD h m op a b w)∧q6o (qD h m op a b w) w.heap.size h m op a b:=by
 have z0:(w.alloc (zq h m)).heap.size=w.heap.size+1:=by simp
 obtain⟨c1,z1,b1⟩:=km z0 [.int .i64 op,.int .i64 a,.int .i64 b] 45;exact⟨((zb w.heap.size w).alloc (zn _) (zq h m)).trans (b1.mono (by omega)),(qf w h m).keep b1 (by omega),c1,z1⟩
theorem q6o.keep{w w':World}{N:Nat}{h:zl}{m:za}{op a b:Int}(H:q6o w N h m op a b)(hb:Below w.heap.size w w'):Zl w' N h m∧zT w' (N+1) [.int .i64 op,.int .i64 a,.int .i64 b]:=
 ⟨H.img.keep hb (by have:=H.size;omega),H.ins.keep hb (by have:=H.size;omega)⟩
abbrev JK(h:zl)(m:za)(op a b:Int)(w:World):World:=(qD h m op a b w).alloc (.cells #[.int .i64 0,.int .i64 0] 39)
structure qpn(w1:World)(N:Nat)(h:zl)(m:za)(op a b:Int):Prop where
 img:Zl w1 N h m
 ins:zT w1 (N+1) [.int .i64 op,.int .i64 a,.int .i64 b]
 res:zf w1 (N+1+1) [.int .i64 0,.int .i64 0] 39
 size:w1.heap.size=N+1+1+1
theorem q3d(h:zl)(m:za)(op a b:Int)(w:World):Below w.heap.size w (JK h m op a b w)∧qpn (JK h m op a b w) w.heap.size h m op a b:=by
 obtain⟨h0,h1⟩:=q4f h m op a b w;obtain⟨c1,z1,b1⟩:=km h1.size [.int .i64 0,.int .i64 0] 39;exact⟨h0.trans (b1.mono (by omega)),h1.img.keep b1 (by omega),h1.ins.keep b1 (by omega),zf.at_ h1.size _ _,z1⟩
theorem q61{w0 w1 w:World}{N:Nat}{x y:Int}(hb0:Below N w0 w1)(hb:Below w1.heap.size w1 w)(hN:N+1+1<w1.heap.size)(hw:zf w1 (N+1+1) [.int .i64 0,.int .i64 0] 39):
  ((w.setCell ⟨N+1+1,0,none⟩ (.int .i64 x)).setCell ⟨N+1+1,1,none⟩ (.int .i64 y)).cell? ⟨N+1+1,0,none⟩=some (.int .i64 x)∧((w.setCell ⟨N+1+1,0,none⟩ (.int .i64 x)).setCell ⟨N+1+1,1,none⟩ (.int .i64 y)).cell? ⟨N+1+1,1,none⟩=some (.int .i64 y)∧
  Below N w0 ((w.setCell ⟨N+1+1,0,none⟩ (.int .i64 x)).setCell ⟨N+1+1,1,none⟩ (.int .i64 y)):=by
 have h:=((hw.keep hb (by omega)).set 0 (.int .i64 x)).set 1 (.int .i64 y);exact⟨h.cells 0 _ rfl,h.cells 1 _ rfl,((hb0.trans (hb.mono (by omega))).setCell (p:=⟨N+1+1,0,none⟩) (by show N≤N+1+1;omega) _).setCell (p:=⟨N+1+1,1,none⟩) (by show N≤N+1+1;omega) _⟩
theorem qmv(m:za)(f:Nat)(x:ze)(h:zl)(w:World)(H:zp w w.heap.size h m)(hx:m.methods[f]? =some x):
  Calls Tryz.prog 113 #[zr h m,.int .i64 f] w (qn x.args w):=by
 have HW:=zH ((zb w.heap.size w).alloc (zn _) (zq h m));have HI:=zH (H.now HW.out);have HBX:=zH (qf w h m);clear H;go_enter Tryz.func113,Tryz.ntmps113;go_upto_region 1 with fail
 generalize w.alloc (zq h m)=w1 at*
 obtain⟨q0,q1,q2,q3,q4,q5,q6⟩:=HBX.out;have HX0:Hid (Below w1.heap.size w1 w1):=zH (zb _ _);go_upto_region 2 with(go_at_call 89;(with_reducible refine(Vh HI HX0 hx).mono ?_);rintro e w2 ⟨hn,rfl,hm,hb⟩;have HM2:=zH hm;have HB2:=zH hb;clear hm hb)
 have HC:=zH (qd w2 (qe hn x) 42);have HA:Hid (Below w2.heap.size w2 (w2.alloc (.cells (qe hn x).toArray 42))):=zH ((zb _ _).alloc (zn _) _);have HM3:=zH (HM2.out.now HA.out);have HW3:=zH (HW.out.trans ((HB2.out.trans (HA.out.mono HB2.out.size)).mono HW.out.size));generalize w2.alloc (.cells (qe hn x).toArray 42)=w3 at*
 have c0:=HC.out 0 _ rfl;go_wp2_with fail
 go_ret;exact⟨_,_,rfl,HM3.out.args,HW3.out⟩
theorem qc8{m:za}{h:zl}{w0 w:World}{f:Nat}{x:ze}(HI:Hid (zp w0 w0.heap.size h m))(HX:Hid (Below w0.heap.size w0 w))(hx:m.methods[f]? =some x):
  Calls Tryz.prog 113 #[zr h m,.int .i64 f] w (qn x.args w):=qmv m f x h w (HI.out.now HX.out) hx
theorem qfi(m:za)(f:Nat)(x:ze)(h:zl)(w:World)(H:zp w w.heap.size h m)(hx:m.methods[f]? =some x):
  Calls Tryz.prog 116 #[zr h m,.int .i64 f] w (qn (jd x) w):=by
 have HW:=zH ((zb w.heap.size w).alloc (zn _) (zq h m));have HI:=zH (H.now HW.out);have HBX:=zH (qf w h m);have HLE:=zH hx;clear H hx;by_cases h5:x.ret.1=5
 ·have e:jd x=[]:=by unfold jd;rw[if_pos h5]
  rw[e];have H5:=zH h5;clear e h5;go_enter Tryz.func116,Tryz.ntmps116;go_upto_region 1 with fail
  generalize w.alloc (zq h m)=w1 at*
  obtain⟨q0,q1,q2,q3,q4,q5,q6⟩:=HBX.out;have HX0:Hid (Below w1.heap.size w1 w1):=zH (zb _ _);go_upto_region 2 with(go_at_call 89;(with_reducible refine(Vh HI HX0 HLE.out).mono ?_);rintro e w2 ⟨hn,rfl,hm,hb⟩;have HM2:=zH hm;have HB2:=zH hb;clear hm hb)
  have HC:=zH (qd w2 (qe hn x) 42);have HA:Hid (Below w2.heap.size w2 (w2.alloc (.cells (qe hn x).toArray 42))):=zH ((zb _ _).alloc (zn _) _);have HZ:Hid (w2.heap.size<(w2.alloc (.cells (qe hn x).toArray 42)).heap.size):=zH (by simp);have HW3:=zH (HW.out.trans ((HB2.out.trans (HA.out.mono HB2.out.size)).mono HW.out.size));generalize w2.alloc (.cells (qe hn x).toArray 42)=w3 at*
  have c2:=HC.out 2 _ rfl;have c3:=HC.out 3 _ rfl;have hz:=HZ.out;rw[H5.out]at c2;go_wp2_with fail
  go_ret;exact⟨none,0,rfl,ji,HW3.out⟩
 ·have e:jd x=[x.ret]:=by unfold jd;rw[if_neg h5]
  rw[e];clear e;go_enter Tryz.func116,Tryz.ntmps116;go_upto_region 1 with fail
  generalize w.alloc (zq h m)=w1 at*
  obtain⟨q0,q1,q2,q3,q4,q5,q6⟩:=HBX.out;have HX0:Hid (Below w1.heap.size w1 w1):=zH (zb _ _);go_upto_region 2 with(go_at_call 89;(with_reducible refine(Vh HI HX0 HLE.out).mono ?_);rintro e w2 ⟨hn,rfl,hm,hb⟩;have HM2:=zH hm;have HB2:=zH hb;clear hm hb)
  have HC:=zH (qd w2 (qe hn x) 42);have HA:Hid (Below w2.heap.size w2 (w2.alloc (.cells (qe hn x).toArray 42))):=zH ((zb _ _).alloc (zn _) _);have HZ:Hid (w2.heap.size<(w2.alloc (.cells (qe hn x).toArray 42)).heap.size):=zH (by simp);have HW3:=zH (HW.out.trans ((HB2.out.trans (HA.out.mono HB2.out.size)).mono HW.out.size));generalize w2.alloc (.cells (qe hn x).toArray 42)=w3 at*
  have c2:=HC.out 2 _ rfl;have c3:=HC.out 3 _ rfl;have hz:=HZ.out;go_wp2_with fail
  go_ret;refine⟨_,_,rfl,vi (by simp;try omega) (by go_simp) (by go_simp),HW3.out.trans ((zb _ _).alloc (HW3.out.size) _)⟩
theorem q48{m:za}{h:zl}{w0 w:World}{f:Nat}{x:ze}(HI:Hid (zp w0 w0.heap.size h m))(HX:Hid (Below w0.heap.size w0 w))(hx:m.methods[f]? =some x):
  Calls Tryz.prog 116 #[zr h m,.int .i64 f] w (qn (jd x) w):=qfi m f x h w (HI.out.now HX.out) hx
theorem qml(m:za)(op a b:Int)(k:Nat)(h:zl)(w:World)(H:zp w w.heap.size h m)(hs:vb m.classes a b=some (k:Int)):
  Calls Tryz.prog 115 #[zr h m,zF op a b] w fun e w'=>e= .returned (.int .i64 k)∧Below w.heap.size w w':=by
 obtain⟨hw,hp⟩:=q4f h m op a b w;have HW:=zH hw;have HP:=zH hp;have HI:=zH (H.now hw);have HS:=zH hs;clear hw hp H hs;go_enter Tryz.func115,Tryz.ntmps115;go_upto_region 1 with fail
 change Code.wp _ _ _ _ (qD h m op a b w);generalize qD h m op a b w=w1 at*
 obtain⟨q0,q1,q2,q3,q4,q5,q6⟩:=HP.out.img;have o1:=HP.out.ins 1 _ rfl;have o2:=HP.out.ins 2 _ rfl;have HX0:Hid (Below w1.heap.size w1 w1):=zH (zb _ _);go_wp2_with(go_at_call 127;(with_reducible refine(q5v HI HX0 HS).mono ?_);rintro e w2 ⟨rfl,hb⟩;have HB2:=zH hb;clear hb;dsimp only[Option.getD,Option.isSome])
 go_ret;exact⟨rfl,HW.out.trans (HB2.out.mono HW.out.size)⟩
theorem qc4{m:za}{h:zl}{w0 w:World}{op a b:Int}{k:Nat}(HI:Hid (zp w0 w0.heap.size h m))(HX:Hid (Below w0.heap.size w0 w))(HS:Hid (vb m.classes a b=some (k:Int))):
  Calls Tryz.prog 115 #[zr h m,zF op a b] w fun e w'=>e= .returned (.int .i64 k)∧Below w.heap.size w w':=qml m op a b k h w (HI.out.now HX.out) HS.out
theorem qfh(m:za)(op b:Int)(j:Nat)(t:Int×Int)(h:zl)(w:World)(H:zp w w.heap.size h m)(hs:m.statics[j]? =some t):
  Calls Tryz.prog 112 #[zr h m,zF op j b] w fun e w'=>e= .returned (zO t.1 t.2)∧Below w.heap.size w w':=by
 obtain⟨hw,hp⟩:=q3d h m op j b w;have HW:=zH hw;have HP:=zH hp;have HI:=zH (H.now hw);have HS:=zH hs;clear hw hp H hs;go_enter Tryz.func112,Tryz.ntmps112;go_upto_region 1 with fail
 change Code.wp _ _ _ _ (JK h m op j b w);generalize JK h m op j b w=w1 at*
 obtain⟨q0,q1,q2,q3,q4,q5,q6⟩:=HP.out.img;have o1:=HP.out.ins 1 _ rfl;go_upto_region 2 with(go_at_call 132;(with_reducible refine(q56 HI.out.statics HS.out).mono ?_);rintro e w2 ⟨rfl,hb⟩;have HB2:=zH hb;clear hb)
 have hA:Below w2.heap.size w2 (w2.alloc (.cells #[.int .i64 t.1,.int .i64 t.2] 39)):=(zb _ _).alloc (zn _) _;have HC:=zH (qd w2 [.int .i64 t.1,.int .i64 t.2] 39);have HB3:=zj HB2 hA;clear hA;generalize w2.alloc (.cells #[.int .i64 t.1,.int .i64 t.2] 39)=w3 at*
 have c0:=HC.out 0 _ rfl;have c1:=HC.out 1 _ rfl;have hq:=HP.out.res.keep HB3.out HP.out.res.lt;have f0:=hq.free 0;have f1:=hq.free 1;have r0:=hq.cells 0 _ rfl;have r1:=hq.cells 1 _ rfl;clear hq;go_wp2_with fail
 obtain⟨d0,d1,db⟩:=q61 (x:=t.1) (y:=t.2) HW.out HB3.out HP.out.res.lt HP.out.res;exact bodyPost_ret (v:=zO t.1 t.2) (by simp[results,Tryz.results112,go_sem,d0,d1]) rfl ⟨rfl,db⟩
theorem q9h{m:za}{h:zl}{w0 w:World}{op b:Int}{j:Nat}{t:Int×Int}(HI:Hid (zp w0 w0.heap.size h m))(HX:Hid (Below w0.heap.size w0 w))(HS:Hid (m.statics[j]? =some t)):
  Calls Tryz.prog 112 #[zr h m,zF op j b] w fun e w'=>e= .returned (zO t.1 t.2)∧Below w.heap.size w w':=qfh m op b j t h w (HI.out.now HX.out) HS.out
theorem qih(m:za)(op a b:Int)(f:Nat)(x:ze)(t:Int×Int)(h:zl)(w:World)(H:zp w w.heap.size h m)(hx:m.methods[f]? =some x)(hs:a≤9223372036854775807)(ht:qB x a=t):
  Calls Tryz.prog 110 #[zr h m,zF op a b,.int .i64 f] w fun e w'=>e= .returned (zO t.1 t.2)∧Below w.heap.size w w':=by
 subst ht;obtain⟨hw,hp⟩:=q3d h m op a b w;have HW:=zH hw;have HP:=zH hp;have HI:=zH (H.now hw);have HLE:=zH hx;clear hw hp H hx;go_enter Tryz.func110,Tryz.ntmps110;go_upto_region 1 with fail
 change Code.wp _ _ _ _ (JK h m op a b w);generalize JK h m op a b w=w1 at*
 obtain⟨q0,q1,q2,q3,q4,q5,q6⟩:=HP.out.img;have HX0:Hid (Below w1.heap.size w1 w1):=zH (zb _ _);go_upto_region 2 with(go_at_call 89;(with_reducible refine(Vh HI HX0 HLE.out).mono ?_);rintro e w2 ⟨hn,rfl,hm,hb⟩;have HM2:=zH hm;have HB2:=zH hb;clear hm hb)
 have HC:=zH (qd w2 (qe hn x) 42);have HA:Hid (Below w2.heap.size w2 (w2.alloc (.cells (qe hn x).toArray 42))):=zH ((zb _ _).alloc (zn _) _);have HM3:=zH (HM2.out.now HA.out);have HB3:=zH (HB2.out.trans (HA.out.mono HB2.out.size));generalize w2.alloc (.cells (qe hn x).toArray 42)=w3 at*
 obtain⟨c0,c1,c2,c3,c4,c5,c6,c7⟩:=qH HC.out;have o1:=(HP.out.ins.keep HB3.out (by have:=HP.out.size;omega)) 1 _ rfl;clear HC;go_wp2_with(go_at_call 131;(with_reducible refine(qjd x a hs hn w3 HM3.out).mono ?_);rintro e w4 ⟨rfl,hb⟩;have HB4:=zj HB3 hb;have hq:=HP.out.res.keep HB4.out HP.out.res.lt;have f0:=hq.free 0;have f1:=hq.free 1;have r0:=hq.cells 0 _ rfl;have r1:=hq.cells 1 _ rfl;clear hq hb)
 generalize qB x a=t at*
 obtain⟨d0,d1,db⟩:=q61 (x:=t.1) (y:=t.2) HW.out HB4.out HP.out.res.lt HP.out.res;exact bodyPost_ret (v:=zO t.1 t.2) (by simp[results,Tryz.results110,go_sem,d0,d1]) rfl ⟨rfl,db⟩
theorem qaw{m:za}{h:zl}{w0 w:World}{op a b:Int}{f:Nat}{x:ze}{t:Int×Int}(HI:Hid (zp w0 w0.heap.size h m))(HX:Hid (Below w0.heap.size w0 w))(hx:m.methods[f]? =some x)(hs:a≤9223372036854775807)(HT:Hid (qB x a=t)):
  Calls Tryz.prog 110 #[zr h m,zF op a b,.int .i64 f] w fun e w'=>e= .returned (zO t.1 t.2)∧Below w.heap.size w w':=qih m op a b f x t h w (HI.out.now HX.out) hx hs HT.out
def jG(a k:Int):Int×Int:=(k,if k=3 then a else 0)
def zX(a:Int)(ks:List Int):List (Int×Int):=ks.map (jG a)
abbrev mkF(N:Nat):Value:= .func (.func 130) #[] #[.pointer (some ⟨N,0,none⟩)]
theorem qig(op a b:Int)(w:World):
  Calls Tryz.prog 109 #[zF op a b] w fun e w'=>e= .returned (mkF w.heap.size)∧w'=w.alloc (.cells #[.int .i64 op,.int .i64 a,.int .i64 b] 45):=by
 go_enter Tryz.func109,Tryz.ntmps109;go_wp2
 go_ret;exact⟨rfl,rfl⟩
theorem q65{w:World}{g:Nat}{x y:Int}(hg:g<w.heap.size)(h0:w.cell? ⟨g,0,none⟩=some (.int .i64 x))(h1:w.cell? ⟨g,1,none⟩=some (.int .i64 y)):zz w w.heap.size (some ⟨g,0,none⟩) (zD [(x,y)]):=vl (vi hg h0 h1).row
theorem qre(ks:List Int)(op a b:Int)(N:Nat)(A:Option Addr)(c:Nat)(w:World)(hN:N<w.heap.size)(hc:zT w N [.int .i64 op,.int .i64 a,.int .i64 b])(h:zd zo 1 w w.heap.size A c ks)(hl:ks.length≤1000):
  Calls Tryz.prog 130 #[.slice A ks.length c,.pointer (some ⟨N,0,none⟩)] w (QB (zX a ks) w):=by
 obtain⟨i0,hi,hz0,hz1,hz2⟩:=jg kK;have HN:=zH hN;have HC:=zH hc;have HS:=zH h;have hle:=h.le;have hcap:=h.cap;clear hN hc h;go_enter Tryz.func130,Tryz.ntmps130;go_wp2_with fail
 go_loopw [4,10] (fun v i wr=>∃k:Nat,k≤ks.length∧i= .int .i64 k∧Hid (wr.ownsRow w.heap.size 39 2 v k (zD (zX a (ks.take k))))∧Hid (Below w.heap.size w wr)) (fun _ i _=>ks.length - (intOf i).toNat)
 case atStart=>exact⟨0,by omega,rfl,zH (World.ownsRow_nil _ _ _ _),zH (zb _ _)⟩
 case round=>
  obtain⟨k,hk,rfl,HO,HX⟩:=hrel;by_cases hlt:k<ks.length
  ·obtain⟨ad,rfl,hab,hcz⟩:=(HS.out.below_to zo.keeps HX.out (zn _)).row.at_ hlt;have HT:Hid (zX a (ks.take (k+1))=zX a (ks.take k)++[jG a ks[k]]):=zH (by unfold zX;rw[List.take_succ_eq_append_getElem hlt,List.map_append];rfl);obtain⟨L,hL⟩:∃L,zX a (ks.take k)=L:=⟨_,rfl⟩
   have hLl:L.length=k:=by rw[←hL];unfold zX;rw[List.length_map,List.length_take];omega
   rw[hL]at HT HO;generalize ks[k]=z at*
   have hcz:wr.cell? (ad.add k)=some (.int .i64 z):=by have:=hcz;rw[Nat.mul_one]at this;exact this
   have o1:=(HC.out.keep HX.out HN.out) 1 _ rfl;have hsz:=HX.out.size;have hNw:N<wr.heap.size:=Nat.lt_of_lt_of_le HN.out hsz;clear hL;by_cases hz3:z=3
   ·subst hz3;go_wp2_with(at_builtin;refine ja rfl _ _ 23 rfl w.heap.size 39 i0 (.agg #[.int .i64 0,.int .i64 0]) 2 16 Tryz.underlying23 hi hz0 hz1 hz2 rfl (by decide) _ k (zD L) rfl ((HO.out.alloc _).alloc _) (some ⟨wr.heap.size+1,0,none⟩) 1 1 _ (zD [(3,a)]) rfl rfl (q65 (by simp) (by go_simp) (by go_simp)) (jt _) (by unfold maxLen;omega) (by omega) (by simp;omega) ?_;intro v6 w6 hown hgrow;have HX6:=zH (qA ((HX.out.alloc hsz _).alloc (by simp;omega) _) ((HO.out.alloc _).alloc _) (by simp;omega) hgrow);have HO6:=zH hown;clear hown hgrow)
    go_roundw;case rel=>exact⟨k+1,by omega,by go_num,zH (by rw[HT.out];show World.ownsRow _ _ _ _ _ _ ((L++[(3,a)]).flatMap tyC);rw[List.flatMap_append];exact HO6.out),HX6⟩
    case measure=>simp[intOf];omega
   ·have HM:Hid (jG a z=(z,0)):=zH (by unfold jG;rw[if_neg hz3]);go_wp2_with(at_builtin;refine ja rfl _ _ 23 rfl w.heap.size 39 i0 (.agg #[.int .i64 0,.int .i64 0]) 2 16 Tryz.underlying23 hi hz0 hz1 hz2 rfl (by decide) _ k (zD L) rfl ((HO.out.alloc _).alloc _) (some ⟨wr.heap.size+1,0,none⟩) 1 1 _ (zD [(z,0)]) rfl rfl (q65 (by simp) (by go_simp) (by go_simp)) (jt _) (by unfold maxLen;omega) (by omega) (by simp;omega) ?_;intro v6 w6 hown hgrow;have HX6:=zH (qA ((HX.out.alloc hsz _).alloc (by simp;omega) _) ((HO.out.alloc _).alloc _) (by simp;omega) hgrow);have HO6:=zH hown;clear hown hgrow)
    go_roundw;case rel=>exact⟨k+1,by omega,by go_num,zH (by rw[HT.out,HM.out];show World.ownsRow _ _ _ _ _ _ ((L++[(z,0)]).flatMap tyC);rw[List.flatMap_append];exact HO6.out),HX6⟩
    case measure=>simp[intOf];omega
  ·obtain rfl:k=ks.length:=by omega
   have HT:Hid (zX a (ks.take ks.length)=zX a ks):=zH (by rw[List.take_length]);have HLN:Hid ((zX a ks).length=ks.length):=zH (by unfold zX;rw[List.length_map]);go_wp2_with fail
   go_ret;refine⟨_,rfl,?_,HX.out⟩;rw[HLN.out,←HT.out];exact HO.out
theorem q2w{ks:List Int}{op a b:Int}{N:Nat}{A:Option Addr}{c:Nat}{w:World}{L:List (Int×Int)}(HL:Hid (zX a ks=L))(HN:N<w.heap.size)(HC:zT w N [.int .i64 op,.int .i64 a,.int .i64 b])(HS:zd zo 1 w w.heap.size A c ks)(hl:ks.length≤1000):
  Calls Tryz.prog 130 #[.slice A ks.length c,.pointer (some ⟨N,0,none⟩)] w (QB L w):=by
 have H:=qre ks op a b N A c w HN HC HS hl;rw[HL.out]at H;exact H
theorem q9g{w:World}{B c n:Nat}{ad:Addr}{L:List (Int×Int)}(h:zd zi 2 w B (some ad) c L)(hn:n≤L.length):zd zi 2 w B (some (ad.add (n*2))) (c - n) (L.drop n):=by
 refine⟨by have:=h.le;rw[List.length_drop];omega,by have:=h.cap;omega,fun i t hi=> ?_⟩;rw[List.getElem?_drop]at hi;obtain⟨ad',e,hb,ht⟩:=h.row (n+i) t hi;injection e with e;subst e;refine⟨_,rfl,by rw[zt];exact hb,?_⟩;rw[Yc,←Nat.add_mul];exact ht
theorem Vg{w:World}{B c:Nat}{A:Option Addr}{L:List (Int×Int)}(hL:L=[])(hc:c≤9223372036854775807):zd zi 2 w B A c L:=by
 subst hL;exact⟨Nat.zero_le _,hc,qt.nil⟩
theorem qfk(m:za)(f:Nat)(x:ze)(hal:0<x.args.length)(h:zl)(w:World)(H:zp w w.heap.size h m)(hx:m.methods[f]? =some x):
  Calls Tryz.prog 114 #[zr h m,.int .i64 f] w (qn (x.args.drop 1) w):=by
 have HW:=zH ((zb w.heap.size w).alloc (zn _) (zq h m));have HI:=zH (H.now HW.out);have HBX:=zH (qf w h m);have HLE:=zH hx;have hdl:(x.args.drop 1).length=x.args.length - 1:=List.length_drop;have HDL:=zH hdl;clear H hx hdl;go_enter Tryz.func114,Tryz.ntmps114;go_upto_region 1 with fail
 generalize w.alloc (zq h m)=w1 at*
 obtain⟨q0,q1,q2,q3,q4,q5,q6⟩:=HBX.out;have HX0:Hid (Below w1.heap.size w1 w1):=zH (zb _ _);go_upto_region 2 with(go_at_call 113;(with_reducible refine(qc8 HI HX0 HLE.out).mono ?_);rintro e w2 ⟨A,c,rfl,hs,hb⟩;have HS2:=zH hs;have HB2:=zH hb;clear hs hb)
 obtain⟨ad,rfl,hab,_⟩:=HS2.out.row.at_ (i:=0) hal;have hle:=HS2.out.le;have hcap:=HS2.out.cap;have hgt:(x.args.length:Int)>0:=by omega
 have hb1:(1:Int)≤(x.args.length:Int):=by omega
 have hb2:(x.args.length:Int)≤(c:Int):=by omega
 by_cases hc1:c=1
 ·subst hc1;go_wp2_with fail
  go_ret;exact⟨some ad,0,by rw[show(x.args.drop 1).length=0 by rw[HDL.out];omega];rfl,Vg (List.eq_nil_of_length_eq_zero (by rw[HDL.out];omega)) (by omega),HW.out.trans (HB2.out.mono HW.out.size)⟩
 ·go_wp2_with fail
  go_ret;exact⟨some (ad.add (1*2)),c - 1,by rw[HDL.out];rfl,q9g (n:=1) HS2.out hal,HW.out.trans (HB2.out.mono HW.out.size)⟩
theorem VP{w:World}{A:Option Addr}{c:Nat}{L:List (Int×Int)}(h:zd zi 2 w w.heap.size A c L)(o:Obj):zd zi 2 (w.alloc o) (w.alloc o).heap.size A c L:=
 (h.below_to zi.keeps ((zb _ _).alloc (zn _) o) (zn _)).keep' zi.keeps (by simp) (fun _ _=>rfl)
theorem qie{m:za}{h:zl}{w0 w:World}{f:Nat}{x:ze}(HI:Hid (zp w0 w0.heap.size h m))(HX:Hid (Below w0.heap.size w0 w))(hx:m.methods[f]? =some x)(hal:0<x.args.length):
  Calls Tryz.prog 114 #[zr h m,.int .i64 f] w (qn (x.args.drop 1) w):=qfk m f x hal h w (HI.out.now HX.out) hx
theorem q9o{m:za}{h:zl}{w0 w:World}{c:Int}{L:List (Int×Int)}(HI:Hid (zp w0 w0.heap.size h m))(HX:Hid (Below w0.heap.size w0 w))(HL:Hid (qS m.classes c=L))(hn:m.classes.length≤1000)(HF:Hid (∀x ∈m.classes,x.fields.length≤1000)):
  Calls Tryz.prog 51 #[zr h m,.int .i64 c] w (QB L w):=by
 have H:=q8g m c h w (HI.out.now HX.out) hn HF.out;rw[HL.out]at H;exact H
set_option maxHeartbeats 1600000 in
theorem qil(m:za)(op a:Int)(k:Nat)(t:Int×Int)(hk:(qS m.classes a)[k]? =some t)(hn:m.classes.length≤1000)(hf:∀x ∈m.classes,x.fields.length≤1000)(h:zl)(w:World)(H:zp w w.heap.size h m):
  Calls Tryz.prog 111 #[zr h m,zF op a (k:Int)] w fun e w'=>e= .returned (zO t.1 t.2)∧Below w.heap.size w w':=by
 obtain⟨L,hL⟩:∃L,qS m.classes a=L:=⟨_,rfl⟩
 have HL:=zH hL;rw[hL]at hk;have HF:=zH hf;have HK:=zH hk;obtain⟨hw,hp⟩:=q3d h m op a (k:Int) w;have HW:=zH hw;have HP:=zH hp;have HI:=zH (H.now hw);clear hw hp H hk hL hf;go_enter Tryz.func111,Tryz.ntmps111;go_upto_region 1 with fail
 change Code.wp _ _ _ _ (JK h m op a (k:Int) w);generalize JK h m op a (k:Int) w=w1 at*
 have HX:Hid (Below w1.heap.size w1 w1.drew):=zH (zb w1.heap.size w1).drew;have HXA:Hid (Below w1.heap.size w1 (w1.alloc (.cells #[.int .i64 0,.int .i64 0] 39)).drew):=zH ((zb w1.heap.size w1).alloc (zn _) _).drew;have HKP:Hid (∀W,Below w1.heap.size w1 W→(fun w'=>w'.cell? ⟨w.heap.size,0,none⟩=some (.slice h.A0 m.classes.length h.c0)∧w'.cell? ⟨w.heap.size,1,none⟩=some (.slice h.A1 m.statics.length h.c1)∧w'.cell? ⟨w.heap.size,2,none⟩=some (.slice h.A2 m.ints.length h.c2)∧w'.cell? ⟨w.heap.size,3,none⟩=some (.slice h.A3 m.methods.length h.c3)∧w'.cell? ⟨w.heap.size,4,none⟩=some (.slice h.A4 m.entries.length h.c4)∧w'.cell? ⟨w.heap.size,5,none⟩=some (.int .i64 m.stack)∧w'.cell? ⟨w.heap.size,6,none⟩=some (.int .i64 m.heap)∧w'.cell? ⟨w.heap.size+1,1,none⟩=some (.int .i64 a)∧w'.cell? ⟨w.heap.size+1,2,none⟩=some (.int .i64 (k:Int))) W):=zH (fun W hW=>by
  have hz:=HP.out.size;obtain⟨d0,d1,d2,d3,d4,d5,d6⟩:=HP.out.img.keep hW (by omega);have di:=HP.out.ins.keep hW (by omega);exact⟨d0,d1,d2,d3,d4,d5,d6,di 1 _ rfl,di 2 _ rfl⟩)
 go_region_held3 (fun w'=>w'.cell? ⟨w.heap.size,0,none⟩=some (.slice h.A0 m.classes.length h.c0)∧w'.cell? ⟨w.heap.size,1,none⟩=some (.slice h.A1 m.statics.length h.c1)∧w'.cell? ⟨w.heap.size,2,none⟩=some (.slice h.A2 m.ints.length h.c2)∧w'.cell? ⟨w.heap.size,3,none⟩=some (.slice h.A3 m.methods.length h.c3)∧w'.cell? ⟨w.heap.size,4,none⟩=some (.slice h.A4 m.entries.length h.c4)∧w'.cell? ⟨w.heap.size,5,none⟩=some (.int .i64 m.stack)∧w'.cell? ⟨w.heap.size,6,none⟩=some (.int .i64 m.heap)∧w'.cell? ⟨w.heap.size+1,1,none⟩=some (.int .i64 a)∧w'.cell? ⟨w.heap.size+1,2,none⟩=some (.int .i64 (k:Int))) (first|exact HKP.out _ HX.out|exact HKP.out _ HXA.out|exact HKP.out _ HX4.out|exact HKP.out _ HX3.out|exact HKP.out _ (HX3.out.alloc HX3.out.size _)|exact HKP.out _ (HX4.out.alloc HX4.out.size _)|exact HKP.out _ ((HX4.out.setCell (p:=⟨w1.heap.size,0,none⟩) (zn _) _).setCell (p:=⟨w1.heap.size,1,none⟩) (zn _) _)|exact HKP.out _ ((HX4.out.setCell (p:=⟨w3.heap.size,0,none⟩) HX3.out.size _).setCell (p:=⟨w3.heap.size,1,none⟩) HX3.out.size _)) (first
  |(go_at_call 51;(first|((with_reducible refine(q9o HI HX HL hn HF).mono ?_);have HY:=HX)|((with_reducible refine(q9o HI HXA HL hn HF).mono ?_);have HY:=HXA));rintro e w3 ⟨v3,rfl,ho,hb⟩;(first|(have HQA:=zH (zf.keep (show zf (w1.alloc (.cells #[.int .i64 0,.int .i64 0] 39)).drew w1.heap.size [.int .i64 0,.int .i64 0] 39 from zf.new w1 _ _) hb (by simp)))|skip);obtain⟨A3,c3,rfl,hs,_⟩:=vy ho;have HZ3:=zH hb;have HX3:=zj HY hb;have HS3:=zH hs;clear ho hb hs)
  |(go_at_call 132;(first|((with_reducible refine(q56 HS3.out HK.out).mono ?_);have HY4:=HX3)|((with_reducible refine(q56 (VP HS3.out _) HK.out).mono ?_);have HY4:=zH (HX3.out.alloc HX3.out.size (.cells #[.int .i64 0,.int .i64 0] 39))));rintro e w4 ⟨rfl,hb⟩;have HZ4:=zH hb;have HX4:=zj HY4 hb;(first|(have hq:=HQA.out.keep hb HQA.out.lt)|(have hq:=(zf.new w3 [.int .i64 0,.int .i64 0] 39).keep hb (by simp))|(have hq:=trivial));(first|(have f0:=hq.free 0;have f1:=hq.free 1;have r0:=hq.cells 0 _ rfl;have r1:=hq.cells 1 _ rfl)|skip);have HQ4:=zH hq;clear hq hb))
 all_goals
  first
   |(have HQ5:Hid (zf ((w4.setCell ⟨w1.heap.size,0,none⟩ (.int .i64 t.1)).setCell ⟨w1.heap.size,1,none⟩ (.int .i64 t.2)) w1.heap.size [.int .i64 t.1,.int .i64 t.2] 39):=zH ((HQ4.out.set 0 (.int .i64 t.1)).set 1 (.int .i64 t.2));have HB5:Hid (Below w1.heap.size w1 ((w4.setCell ⟨w1.heap.size,0,none⟩ (.int .i64 t.1)).setCell ⟨w1.heap.size,1,none⟩ (.int .i64 t.2))):=zH ((HX4.out.setCell (p:=⟨w1.heap.size,0,none⟩) (zn _) (.int .i64 t.1)).setCell (p:=⟨w1.heap.size,1,none⟩) (zn _) (.int .i64 t.2));generalize((w4.setCell ⟨w1.heap.size,0,none⟩ (.int .i64 t.1)).setCell ⟨w1.heap.size,1,none⟩ (.int .i64 t.2))=w5 at*)
   |(have HQ5:Hid (zf ((w4.setCell ⟨w3.heap.size,0,none⟩ (.int .i64 t.1)).setCell ⟨w3.heap.size,1,none⟩ (.int .i64 t.2)) w3.heap.size [.int .i64 t.1,.int .i64 t.2] 39):=zH ((HQ4.out.set 0 (.int .i64 t.1)).set 1 (.int .i64 t.2));have HB5:Hid (Below w1.heap.size w1 ((w4.setCell ⟨w3.heap.size,0,none⟩ (.int .i64 t.1)).setCell ⟨w3.heap.size,1,none⟩ (.int .i64 t.2))):=zH ((HX4.out.setCell (p:=⟨w3.heap.size,0,none⟩) HX3.out.size (.int .i64 t.1)).setCell (p:=⟨w3.heap.size,1,none⟩) HX3.out.size (.int .i64 t.2));generalize((w4.setCell ⟨w3.heap.size,0,none⟩ (.int .i64 t.1)).setCell ⟨w3.heap.size,1,none⟩ (.int .i64 t.2))=w5 at*)
   |(have HQ5:=zH (zf.new w4 [.int .i64 t.1,.int .i64 t.2] 39);have HB5:Hid (Below w1.heap.size w1 (w4.alloc (.cells #[.int .i64 t.1,.int .i64 t.2] 39))):=zH (HX4.out.alloc HX4.out.size _);change Exit.then _ _ _ _ (w4.alloc (.cells #[.int .i64 t.1,.int .i64 t.2] 39));generalize w4.alloc (.cells #[.int .i64 t.1,.int .i64 t.2] 39)=w5 at*)
  have c0:=HQ5.out.cells 0 _ rfl;have c1:=HQ5.out.cells 1 _ rfl;have hq:=HP.out.res.keep HB5.out HP.out.res.lt;have f0:=hq.free 0;have f1:=hq.free 1;have r0:=hq.cells 0 _ rfl;have r1:=hq.cells 1 _ rfl;clear hq;go_wp2_with fail
  obtain⟨d0,d1,db⟩:=q61 (x:=t.1) (y:=t.2) HW.out HB5.out HP.out.res.lt HP.out.res;exact bodyPost_ret (v:=zO t.1 t.2) (by simp[results,Tryz.results111,go_sem,d0,d1]) rfl ⟨rfl,db⟩
theorem qax{m:za}{h:zl}{w0 w:World}{op a:Int}{k:Nat}{t:Int×Int}(HI:Hid (zp w0 w0.heap.size h m))(HX:Hid (Below w0.heap.size w0 w))(HK:Hid ((qS m.classes a)[k]? =some t))(hn:m.classes.length≤1000)(HF:Hid (∀x ∈m.classes,x.fields.length≤1000)):
  Calls Tryz.prog 111 #[zr h m,zF op a (k:Int)] w fun e w'=>e= .returned (zO t.1 t.2)∧Below w.heap.size w w':=qil m op a k t HK.out hn HF.out h w (HI.out.now HX.out)
theorem qmo(n:Nat)(hn:n≤1000000)(w:World):
  Calls Tryz.prog 121 #[.slice none 0 0,.int .i64 n] w fun e w'=>∃v,e= .returned v∧w'.ownsRow w.heap.size 39 2 v 0 []∧Below w.heap.size w w':=by
 obtain⟨i0,hi,hz0,hz1,hz2⟩:=jg kK;rcases Nat.eq_zero_or_pos n with rfl|hp
 ·go_enter Tryz.func121,Tryz.ntmps121;go_wp2
  go_ret;exact⟨_,rfl,World.ownsRow_nil _ _ _ _,zb _ _⟩
 ·have hw1:IntKind.i64.wrap ((n:Int) - 0)=(n:Int):=by rw[Int.sub_zero];exact IntWalk.i64_in _ (by omega)
  have h1:¬((n:Int)<0):=by omega
  have h4:(n:Int)>0:=by omega
  have hrz:∀ty,(Builtin.append_ #[23,3] ty #[.slice none 0 0,.int .i64 n]).run Tryz.prog w=_:=fun ty=>
   Lib.run_append_nil_zeros w 23 3 ty 39 i0 _ .i64 .i64 Tryz.underlying23 Tryz.underlying3 hi hz0 n hp (by omega) (by omega) (by rw[hz2];omega)
  have hg1:=grownCap_ge w n 0 39;have hg2:=grownCap_le_maxLen w n 0 39 (by unfold maxLen;omega);obtain⟨G,hG⟩:∃G,G=grownCap w n 0 39:=⟨_,rfl⟩
  rw[←hG]at hrz hg1 hg2;have hG63:G≤9223372036854775807:=by unfold maxLen at hg2;omega
  have HO:Hid (∀w1,w1=w.drew.alloc (.cells (Builtin.zeroCells (Value.agg #[.int .i64 0,.int .i64 0]).cells n++Builtin.zeroCells (Value.agg #[.int .i64 0,.int .i64 0]).cells (G - n)) 39)→w1.ownsRow w.heap.size 39 2 (.slice (some ⟨w.heap.size,0,none⟩) 0 G) 0 []∧Below w.heap.size w w1):=zH (fun w1 h=>by
   subst h;refine⟨⟨rfl,.inr ⟨w.heap.size,G,_,rfl,zn _,heap_alloc_new _ _,Nat.zero_le _,hg2,?_,by simp⟩⟩,((zb _ _).drew).alloc (zn _) _⟩;rw[Array.size_append,size_zeroCells,size_zeroCells];show n*2+(G - n)*2=G*2;omega)
  clear hG hi hz0 hz1 hz2;go_enter Tryz.func121,Tryz.ntmps121;go_wp2_with(at_builtin;refine Lib.wpList_append_run _ rfl _ _ _ _ rfl _ _ rfl rfl _ _ (hrz _) ?_)
  go_ret;obtain⟨o1,o2⟩:=HO.out _ rfl;exact⟨_,rfl,o1,o2⟩
theorem qp3{n:Nat}{w:World}{z:Int}(HZ:Hid (z=(n:Int)))(hn:n≤1000000):
  Calls Tryz.prog 121 #[.slice none 0 0,.int .i64 z] w fun e w'=>∃v,e= .returned v∧w'.ownsRow w.heap.size 39 2 v 0 []∧Below w.heap.size w w':=by
 rw[HZ.out];exact qmo n hn w
set_option maxHeartbeats 1600000 in
theorem q8c(L M:List (Int×Int))(A B:Option Addr)(c d g:Nat)(w:World)(h:zd zi 2 w w.heap.size A c L)(h':zd zi 2 w w.heap.size B d M)(hg:g<w.heap.size)(hc:zT w g [.slice A L.length c,.slice B M.length d])(hL:L.length≤4000)(hM:M.length≤1000):
  Calls Tryz.prog 96 #[.slice (some ⟨g,0,none⟩) 2 2] w (QB (L++M) w):=by
 obtain⟨i0,hi,hz0,hz1,hz2⟩:=jg kK;have HL:=zH h;have HM:=zH h';have HC:=zH hc;have HG:=zH hg;have HZ2:Hid ((((L.length+M.length:Nat):Int))=((L.length+M.length:Nat):Int)):=zH rfl;have c0:=hc 0 _ rfl;have c1:=hc 1 _ rfl;have HLM:Hid ((L++M).length=L.length+M.length):=zH List.length_append;clear h h' hc;go_enter Tryz.func96,Tryz.ntmps96;go_wp2_with fail
 go_loopw [3,11] (fun z i wr=>wr=w∧((i= .int .i64 0∧z= .int .i64 0)∨(i= .int .i64 1∧z= .int .i64 (L.length:Int))∨(i= .int .i64 2∧z= .int .i64 ((L.length+M.length:Nat):Int)))) (fun _ i _=>2 - (intOf i).toNat)
 case atStart=>exact⟨rfl,.inl ⟨rfl,rfl⟩⟩
 case round=>
  obtain⟨hwr,h⟩:=hrel;have hwr:=hwr.symm;subst hwr;rcases h with⟨rfl,rfl⟩|⟨rfl,rfl⟩|⟨rfl,rfl⟩
  ·have hw1:IntKind.i64.wrap (0+(L.length:Int))=(L.length:Int):=by rw[Int.zero_add];exact IntWalk.i64_in _ (by omega)
   have hw2:IntKind.i64.wrap (L.length:Int)=(L.length:Int):=IntWalk.i64_in _ (by omega);have hnn:¬(L.length:Int)<0:=by omega
   go_wp2_with fail
   go_roundw;case rel=>exact⟨trivial,.inr (.inl ⟨by go_num,rfl⟩)⟩
   case measure=>simp[intOf]
  ·have hw1:IntKind.i64.wrap ((L.length:Int)+(M.length:Int))=((L.length+M.length:Nat):Int):=by rw[←Int.natCast_add];exact IntWalk.i64_in _ (by omega)
   have hnn:¬((L.length+M.length:Nat):Int)<0:=by omega
   go_wp2_with fail
   go_roundw;case rel=>exact⟨trivial,.inr (.inr ⟨by go_num,by go_num⟩)⟩
   case measure=>simp[intOf]
  ·go_wp2_with(go_at_call 121;(with_reducible refine(qp3 (n:=L.length+M.length) (zH (by omega)) (by omega)).mono ?_);rintro e w2 ⟨v2,rfl,ho,hb⟩;have HO2:=zH ho;have HB2:=zH hb;clear ho hb)
   go_loopw [6,27] (fun v i w3=>((i= .int .i64 0∧Hid (w3.ownsRow w.heap.size 39 2 v 0 []))∨(i= .int .i64 1∧Hid (w3.ownsRow w.heap.size 39 2 v L.length (zD L)))∨(i= .int .i64 2∧Hid (w3.ownsRow w.heap.size 39 2 v (L.length+M.length) (zD L++zD M))))∧Hid (Below w.heap.size w w3)) (fun _ i _=>2 - (intOf i).toNat)
   case atStart=>exact⟨.inl ⟨rfl,HO2⟩,HB2⟩
   case round=>
    obtain⟨h,HX⟩:=hrel;rcases h with⟨rfl,HO⟩|⟨rfl,HO⟩|⟨rfl,HO⟩
    ·have c0:=(HX.out.cell (p:=⟨g,0,none⟩) HG.out).trans (HC.out 0 _ rfl);have HT:=zH (vl (HL.out.below_to zi.keeps HX.out (zn _)).row);have hsz:=HX.out.size;go_wp2_with(at_builtin;refine ja rfl _ _ 23 rfl w.heap.size 39 i0 (.agg #[.int .i64 0,.int .i64 0]) 2 16 Tryz.underlying23 hi hz0 hz1 hz2 rfl (by decide) _ 0 [] rfl HO.out A L.length c _ (zD L) (vz _) rfl HT.out (jt _) (by unfold maxLen;omega) (by omega) hsz ?_;intro v6 w6 hown hgrow;have HX6:=zH (qA HX.out HO.out hsz hgrow);have HO6:=zH hown;clear hown hgrow)
     go_roundw;case rel=>exact⟨.inr (.inl ⟨by go_num,zH (by simpa using HO6.out)⟩),HX6⟩
     case measure=>simp[intOf]
    ·have c1:=(HX.out.cell (p:=⟨g,1,none⟩) HG.out).trans (HC.out 1 _ rfl);have HT:=zH (vl (HM.out.below_to zi.keeps HX.out (zn _)).row);have hsz:=HX.out.size;go_wp2_with(at_builtin;refine ja rfl _ _ 23 rfl w.heap.size 39 i0 (.agg #[.int .i64 0,.int .i64 0]) 2 16 Tryz.underlying23 hi hz0 hz1 hz2 rfl (by decide) _ L.length (zD L) rfl HO.out B M.length d _ (zD M) (vz _) rfl HT.out (jt _) (by unfold maxLen;omega) (by omega) hsz ?_;intro v6 w6 hown hgrow;have HX6:=zH (qA HX.out HO.out hsz hgrow);have HO6:=zH hown;clear hown hgrow)
     go_roundw;case rel=>exact⟨.inr (.inr ⟨by go_num,HO6⟩),HX6⟩
     case measure=>simp[intOf]
    ·go_wp2_with fail
     go_ret;refine⟨_,rfl,?_,HX.out⟩;rw[HLM.out];show World.ownsRow _ _ _ _ _ _ ((L++M).flatMap tyC);rw[List.flatMap_append];exact HO.out
theorem qej{L M N:List (Int×Int)}{A B:Option Addr}{c d g:Nat}{w:World}(HN:Hid (L++M=N))(h:zd zi 2 w w.heap.size A c L)(h':zd zi 2 w w.heap.size B d M)(hg:g<w.heap.size)(hc:zT w g [.slice A L.length c,.slice B M.length d])(hL:L.length≤4000)(hM:M.length≤1000):
  Calls Tryz.prog 96 #[.slice (some ⟨g,0,none⟩) 2 2] w (QB N w):=by
 have H:=q8c L M A B c d g w h h' hg hc hL hM;rw[HN.out]at H;exact H
theorem qin{L M N:List (Int×Int)}{A B:Option Addr}{c d g:Nat}{w:World}(HN:Hid (L++M=N))(h:zd zi 2 w w.heap.size A c L)(h':zd zi 2 w w.heap.size B d M)(hg:g<w.heap.size)(hc:zT w g [.slice A L.length c,.slice B M.length d])(hL:L.length≤1000)(hM:M.length≤1000):
  Calls Tryz.prog 96 #[.slice (some ⟨g,0,none⟩) 2 2] w (QB N w):=by
 have H:=q8c L M A B c d g w h h' hg hc (Nat.le_trans hL (by decide)) hM;rw[HN.out]at H;exact H
def vw(sup:List Int)(t u:Int×Int):Bool:=if u.1=6 then true else if u.1=7 then jO t.1 else if u.1=8 then jO t.1&& !(decide (t.1=2))else zG sup t.1 t.2 u.1 u.2
def QG(sup:List Int)(L U:List (Int×Int)):Bool:=decide (L.length=U.length)&& (L.zip U).all (fun p=>vw sup p.1 p.2)
theorem q52{t0 t1:Int}{w:World}{r:Bool}(HR:Hid (jO t0=r)):Calls Tryz.prog 133 #[zO t0 t1] w fun e w'=>e= .returned (.bool r)∧Below w.heap.size w w':=by
 have H:=q99 t0 t1 w;rw[HR.out]at H;exact H
theorem q6j(w:World)(x y z u:Int):zT ((w.alloc (.cells #[.int .i64 x,.int .i64 y] 39)).alloc (.cells #[.int .i64 z,.int .i64 u] 39)) w.heap.size [.int .i64 x,.int .i64 y]∧zT ((w.alloc (.cells #[.int .i64 x,.int .i64 y] 39)).alloc (.cells #[.int .i64 z,.int .i64 u] 39)) (w.heap.size+1) [.int .i64 z,.int .i64 u]∧
  Below w.heap.size w ((w.alloc (.cells #[.int .i64 x,.int .i64 y] 39)).alloc (.cells #[.int .i64 z,.int .i64 u] 39))∧((w.alloc (.cells #[.int .i64 x,.int .i64 y] 39)).alloc (.cells #[.int .i64 z,.int .i64 u] 39)).heap.size=w.heap.size+2:=by
 obtain⟨c1,z1,b1⟩:=km (w:=w) rfl [.int .i64 x,.int .i64 y] 39;obtain⟨c2,z2,b2⟩:=km z1 [.int .i64 z,.int .i64 u] 39;exact⟨c1.keep b2 (by omega),c2,b1.trans (b2.mono (by omega)),z2⟩
theorem qms(sup:List Int)(t0 t1 u0 u1:Int)(A:Option Addr)(c:Nat)(w:World)(hl:sup.length≤1048576)(h:jr w w.heap.size A sup):
  Calls Tryz.prog 120 #[.slice A sup.length c,zO t0 t1,zO u0 u1] w fun e w'=>e= .returned (.bool (vw sup (t0,t1) (u0,u1)))∧Below w.heap.size w w':=by
 obtain⟨c1,c2,hb,hz⟩:=q6j w t0 t1 u0 u1;have HC1:=zH c1;have HC2:=zH c2;have HW:=zH hb;have HZ:=zH hz;have HS:=zH (h.below_to hb (zn _));clear c1 c2 hb hz h;by_cases h6:u0=6
 ·subst h6;have e:vw sup (t0,t1) (6,u1)=true:=rfl;rw[e];clear e;go_enter Tryz.func120,Tryz.ntmps120;go_upto_region 1 with fail
  generalize(w.alloc (.cells #[.int .i64 t0,.int .i64 t1] 39)).alloc (.cells #[.int .i64 6,.int .i64 u1] 39)=w1 at*
  have d0:=HC2.out 0 _ rfl;go_wp2_with fail
  go_ret;exact⟨rfl,HW.out⟩
 ·by_cases h7:u0=7
  ·subst h7;obtain⟨r,hr⟩:∃r,jO t0=r:=⟨_,rfl⟩
   have HR:=zH hr;have e:vw sup (t0,t1) (7,u1)=r:=hr;rw[e];clear e hr h6;go_enter Tryz.func120,Tryz.ntmps120;go_upto_region 1 with fail
   generalize(w.alloc (.cells #[.int .i64 t0,.int .i64 t1] 39)).alloc (.cells #[.int .i64 7,.int .i64 u1] 39)=w1 at*
   have d0:=HC2.out 0 _ rfl;have e0:=HC1.out 0 _ rfl;have e1:=HC1.out 1 _ rfl;go_wp2_with(go_at_call 133;(with_reducible refine(q52 HR).mono ?_);rintro e w2 ⟨rfl,hb⟩;have HB2:=zH hb;clear hb)
   go_ret;exact⟨rfl,HW.out.trans (HB2.out.mono HW.out.size)⟩
  ·by_cases h8:u0=8
   ·subst h8;obtain⟨r,hr⟩:∃r,jO t0=r:=⟨_,rfl⟩
    have HR:=zH hr;have e:vw sup (t0,t1) (8,u1)=(r&& !(decide (t0=2))):=by rw[←hr];rfl
    rw[e];clear e hr h6 h7;cases r
    ·go_enter Tryz.func120,Tryz.ntmps120;go_upto_region 1 with fail
     generalize(w.alloc (.cells #[.int .i64 t0,.int .i64 t1] 39)).alloc (.cells #[.int .i64 8,.int .i64 u1] 39)=w1 at*
     have d0:=HC2.out 0 _ rfl;have e0:=HC1.out 0 _ rfl;have e1:=HC1.out 1 _ rfl;go_wp2_with(go_at_call 133;(with_reducible refine(q52 HR).mono ?_);rintro e w2 ⟨rfl,hb⟩;have HB2:=zH hb;have e0:=(HC1.out.keep hb (by have:=HZ.out;omega)) 0 _ rfl;clear hb)
     go_ret;exact⟨rfl,HW.out.trans (HB2.out.mono HW.out.size)⟩
    ·go_enter Tryz.func120,Tryz.ntmps120;go_upto_region 1 with fail
     generalize(w.alloc (.cells #[.int .i64 t0,.int .i64 t1] 39)).alloc (.cells #[.int .i64 8,.int .i64 u1] 39)=w1 at*
     have d0:=HC2.out 0 _ rfl;have e0:=HC1.out 0 _ rfl;have e1:=HC1.out 1 _ rfl;go_wp2_with(go_at_call 133;(with_reducible refine(q52 HR).mono ?_);rintro e w2 ⟨rfl,hb⟩;have HB2:=zH hb;have e0:=(HC1.out.keep hb (by have:=HZ.out;omega)) 0 _ rfl;clear hb)
     go_ret;refine⟨?_,HW.out.trans (HB2.out.mono HW.out.size)⟩;by_cases h2:t0=2<;>simp[h2]
   ·have e:vw sup (t0,t1) (u0,u1)=zG sup t0 t1 u0 u1:=by unfold vw;rw[if_neg h6,if_neg h7,if_neg h8]
    rw[e];clear e;go_enter Tryz.func120,Tryz.ntmps120;go_upto_region 1 with fail
    generalize(w.alloc (.cells #[.int .i64 t0,.int .i64 t1] 39)).alloc (.cells #[.int .i64 u0,.int .i64 u1] 39)=w1 at*
    have d0:=HC2.out 0 _ rfl;have d1:=HC2.out 1 _ rfl;have e0:=HC1.out 0 _ rfl;have e1:=HC1.out 1 _ rfl;go_wp2_with(go_at_call 134;(with_reducible refine(qop sup t0 t1 u0 u1 A c w.heap.size w1 hl HW.out.size HS.out).mono ?_);rintro e w2 ⟨rfl,hb⟩;have HB2:=zH hb;clear hb)
    go_ret;exact⟨rfl,HW.out.trans (HB2.out.mono HW.out.size)⟩
abbrev fitF(N:Nat):Value:= .func (.func 119) #[] #[.pointer (some ⟨N,0,none⟩)]
theorem qmt(sup:List Int)(t0 t1 u0 u1:Int)(A:Option Addr)(c N:Nat)(w:World)(hl:sup.length≤1048576)(h:jr w w.heap.size A sup)(hN:N<w.heap.size)(hc:w.cell? ⟨N,0,none⟩=some (.slice A sup.length c)):
  Calls Tryz.prog 119 #[zO t0 t1,zO u0 u1,.pointer (some ⟨N,0,none⟩)] w fun e w'=>e= .returned (.bool (vw sup (t0,t1) (u0,u1)))∧Below w.heap.size w w':=by
 obtain⟨c1,c2,hb,hz⟩:=q6j w t0 t1 u0 u1;have HC1:=zH c1;have HC2:=zH c2;have HW:=zH hb;have HS:Hid (jr _ _ A sup):=zH (jr.below_to h hb (zn _));have HC:=zH ((hb.cell (p:=⟨N,0,none⟩) hN).trans hc);clear c1 c2 hb hz h hc;go_enter Tryz.func119,Tryz.ntmps119;go_upto_region 1 with fail
 generalize(w.alloc (.cells #[.int .i64 t0,.int .i64 t1] 39)).alloc (.cells #[.int .i64 u0,.int .i64 u1] 39)=w1 at*
 have d0:=HC2.out 0 _ rfl;have d1:=HC2.out 1 _ rfl;have e0:=HC1.out 0 _ rfl;have e1:=HC1.out 1 _ rfl;have c0:=HC.out;have HS1:Hid (jr w1 w1.heap.size A sup):=zH (fun i s hs=>by
  obtain⟨ad,e,hb,hc⟩:=HS.out i s hs;exact⟨ad,e,Nat.lt_of_lt_of_le hb HW.out.size,hc⟩)
 go_wp2_with(go_at_call 120;(with_reducible refine(qms sup t0 t1 u0 u1 A c w1 hl HS1.out).mono ?_);rintro e w2 ⟨rfl,hb⟩;have HB2:=zH hb;clear hb)
 go_ret;exact⟨rfl,HW.out.trans (HB2.out.mono HW.out.size)⟩
theorem zip_at{L U:List (Int×Int)}{k:Nat}(h:k<L.length)(h':k<U.length):∃hz:k<(L.zip U).length,(L.zip U)[k]=(L[k],U[k]):=⟨by rw[List.length_zip];omega,by simp⟩
theorem q9w{w w':World}{A:Option Addr}{sup:List Int}(h:jr w w.heap.size A sup)(hb:Below w.heap.size w w'):jr w' w'.heap.size A sup:=fun i s hs=>by
 obtain⟨ad,e,hlt,hc⟩:=h i s hs;exact⟨ad,e,Nat.lt_of_lt_of_le hlt hb.size,(hb.cell (by rw[zt];omega)).trans hc⟩
theorem qc7{sup:List Int}{t u:Int×Int}{A:Option Addr}{c N:Nat}{w0 w:World}{r:Bool}(hl:sup.length≤1048576)(HS:Hid (jr w0 w0.heap.size A sup))(HN:Hid (N<w0.heap.size))(HC:Hid (w0.cell? ⟨N,0,none⟩=some (.slice A sup.length c)))(HX:Hid (Below w0.heap.size w0 w))(HR:Hid (vw sup t u=r)):
  Calls Tryz.prog 119 #[zO t.1 t.2,zO u.1 u.2,.pointer (some ⟨N,0,none⟩)] w fun e w'=>e= .returned (.bool r)∧Below w.heap.size w w':=by
 have H:=qmt sup t.1 t.2 u.1 u.2 A c N w hl (q9w HS.out HX.out) (Nat.lt_of_lt_of_le HN.out HX.out.size) ((HX.out.cell (p:=⟨N,0,none⟩) HN.out).trans HC.out);rw[HR.out]at H;exact H
set_option maxHeartbeats 3200000 in
theorem qim(sup:List Int)(L U:List (Int×Int))(A A' A'':Option Addr)(c c' c'' N:Nat)(w:World)(hl:sup.length≤1048576)(hS:jr w w.heap.size A'' sup)(hN:N<w.heap.size)(hc:w.cell? ⟨N,0,none⟩=some (.slice A'' sup.length c''))
  (h:zd zi 2 w w.heap.size A c L) (h':zd zi 2 w w.heap.size A' c' U):
  Calls Tryz.prog 118 #[.slice A L.length c,.slice A' U.length c',fitF N] w fun e w'=>e= .returned (.bool (QG sup L U))∧Below w.heap.size w w':=by
 have hlc:=h.le;have hcm:=h.cap;have hlc':=h'.le;have hcm':=h'.cap;have HL:=zH h;have HM:=zH h';have HS:=zH hS;have HN:=zH hN;have HC:=zH hc;clear h h' hS hN hc;obtain⟨b,hb⟩:∃b,QG sup L U=b:=⟨_,rfl⟩
 rw[hb];have E:=zH hb.symm;clear hb;by_cases hn:L.length=U.length
 ·have HLN:=zH hn;have hlen:U.length=L.length:=hn.symm;have HE2:Hid (b=(L.zip U).all (fun p=>vw sup p.1 p.2)):=zH (by rw[E.out];unfold QG;rw[decide_eq_true hn,Bool.true_and]);rw[hlen];clear hn;go_enter Tryz.func118,Tryz.ntmps118;go_wp2
  go_loopw [17] (fun i wr=>∃k:Nat,k≤L.length∧i= .int .i64 k∧Hid (∀p ∈(L.zip U).take k,vw sup p.1 p.2=true)∧Hid (Below w.heap.size w wr)) (fun i _=>L.length - (intOf i).toNat)
  case atStart=>exact⟨0,by omega,rfl,zH (by simp),zH (zb _ _)⟩
  case round=>
   obtain⟨k,hk,rfl,HA,HX⟩:=hrel;by_cases hlt:k<L.length
   ·have hltm:k<U.length:=by omega
    obtain⟨ad,rfl,hab,s0,s1⟩:=(HL.out.below_to zi.keeps HX.out (zn _)).row.at_ hlt;obtain⟨ad',rfl,hab',t0,t1⟩:=(HM.out.below_to zi.keeps HX.out (zn _)).row.at_ hltm;obtain⟨hz,hze⟩:=zip_at hlt hltm;obtain⟨r,hr⟩:∃r,vw sup L[k] U[k]=r:=⟨_,rfl⟩
    have HR:=zH hr;have HT:Hid (r=true→∀p ∈(L.zip U).take (k+1),vw sup p.1 p.2=true):=zH (fun g=>Zc (f:=fun p:(Int×Int)×(Int×Int)=>vw sup p.1 p.2) hz HA.out (by rw[hze];show vw sup L[k] U[k]=true;rw[hr,g]));have HF:Hid (r=false→b=false):=zH (fun g=>by rw[HE2.out];exact Zx (f:=fun p:(Int×Int)×(Int×Int)=>vw sup p.1 p.2) hz (by rw[hze];show vw sup L[k] U[k]=false;rw[hr,g]));clear hr hze hz;generalize L[k]=t at*
    generalize U[k]=u at*
    have hA1:Below wr.heap.size wr (wr.alloc (.cells #[.int .i64 t.1,.int .i64 t.2] 39)):=(zb _ _).alloc (zn _) _;have hsz:=HX.out.size;have u0:=(hA1.cell (p:=ad'.add (k*2)) (by rw[zt];omega)).trans t0;have u1:=(hA1.cell (p:=zc (ad'.add (k*2)) 1) (by show(ad'.add _).block<_;rw[zt];omega)).trans t1;obtain⟨c1,c2,hb,hzz⟩:=q6j wr t.1 t.2 u.1 u.2;have HC1:=zH c1;have HC2:=zH c2;have HX3:=zH (HX.out.trans (hb.mono hsz));clear c1 c2 hb hzz hA1;go_upto_region 7 with fail
    generalize(wr.alloc (.cells #[.int .i64 t.1,.int .i64 t.2] 39)).alloc (.cells #[.int .i64 u.1,.int .i64 u.2] 39)=w3 at*
    have d0:=HC1.out 0 _ rfl;have d1:=HC1.out 1 _ rfl;have e0:=HC2.out 0 _ rfl;have e1:=HC2.out 1 _ rfl;cases r
    ·go_wp2_with(go_at_call 119;(with_reducible refine(qc7 hl HS HN HC HX3 HR).mono ?_);rintro e w4 ⟨rfl,hb⟩;have HX4:=zj HX3 hb;clear hb)
     go_ret;exact⟨by rw[HF.out (by simp)];rfl,HX4.out⟩
    ·go_wp2_with(go_at_call 119;(with_reducible refine(qc7 hl HS HN HC HX3 HR).mono ?_);rintro e w4 ⟨rfl,hb⟩;have HX4:=zj HX3 hb;clear hb)
     go_roundw;case rel=>exact⟨k+1,by omega,by go_num,zH (HT.out (by simp)),HX4⟩
     case measure=>simp[intOf];omega
   ·have E2:=zH (show b=true by rw[HE2.out];exact ZO (f:=fun p:(Int×Int)×(Int×Int)=>vw sup p.1 p.2) HA.out (by rw[List.length_zip];omega));go_wp2_with fail
    go_ret;exact⟨by rw[E2.out];rfl,HX.out⟩
 ·have E2:=zH (show b=false by rw[E.out];unfold QG;rw[decide_eq_false hn,Bool.false_and]);have hn':((L.length:Int)==(U.length:Int))=false:=beq_eq_false_iff_ne.mpr (by omega);go_enter Tryz.func118,Tryz.ntmps118;go_wp2
  go_ret;exact⟨by rw[E2.out];rfl,zb _ _⟩
theorem qfo(sup:List Int)(L U:List (Int×Int))(A A' A'':Option Addr)(c c' c'':Nat)(w:World)(hl:sup.length≤1048576)(hS:jr w w.heap.size A'' sup)(h:zd zi 2 w w.heap.size A c L)(h':zd zi 2 w w.heap.size A' c' U):
  Calls Tryz.prog 95 #[.slice A'' sup.length c'',.slice A L.length c,.slice A' U.length c'] w fun e w'=>e= .returned (.bool (QG sup L U))∧Below w.heap.size w w':=by
 have hA:Below w.heap.size w (w.alloc (.cells #[.slice A'' sup.length c''] 22)):=(zb _ _).alloc (zn _) _;have HA:=zH hA;have HL:Hid (zd zi 2 (w.alloc (.cells #[.slice A'' sup.length c''] 22)) (w.alloc (.cells #[.slice A'' sup.length c''] 22)).heap.size A c L):=zH ((h.below_to zi.keeps hA (zn _)).keep' zi.keeps hA.size (fun _ _=>rfl));have HU:Hid (zd zi 2 (w.alloc (.cells #[.slice A'' sup.length c''] 22)) (w.alloc (.cells #[.slice A'' sup.length c''] 22)).heap.size A' c' U):=zH ((h'.below_to zi.keeps hA (zn _)).keep' zi.keeps hA.size (fun _ _=>rfl));have HS:=zH (q9w hS hA);have HC:=zH (qd w [.slice A'' sup.length c''] 22);have HZ:Hid (w.heap.size<(w.alloc (.cells #[.slice A'' sup.length c''] 22)).heap.size):=zH (by simp);clear h h' hA hS;go_enter Tryz.func95,Tryz.ntmps95;go_upto_region 1 with fail
 generalize w.alloc (.cells #[.slice A'' sup.length c''] 22)=w1 at*
 have c0:=HC.out 0 _ rfl;go_wp2_with(go_at_call 118;(with_reducible refine(qim sup L U A A' A'' c c' c'' w.heap.size w1 hl HS.out HZ.out c0 HL.out HU.out).mono ?_);rintro e w2 ⟨rfl,hb⟩;have HB2:=zH hb;clear hb)
 go_ret;exact⟨rfl,HA.out.trans (HB2.out.mono HA.out.size)⟩
theorem q9l{m:za}{h:zl}{L U:List (Int×Int)}{A A':Option Addr}{c c':Nat}{w0 w:World}{r:Bool}(HI:Hid (zp w0 w0.heap.size h m))(HX:Hid (Below w0.heap.size w0 w))(hn:m.classes.length≤1000)(HL:zd zi 2 w w.heap.size A c L)(HU:zd zi 2 w w.heap.size A' c' U)(HR:Hid (QG (zw m.classes) L U=r)):
  Calls Tryz.prog 95 #[.slice h.A0 m.classes.length h.c0,.slice A L.length c,.slice A' U.length c'] w fun e w'=>e= .returned (.bool r)∧Below w.heap.size w w':=by
 have H:=qfo (zw m.classes) L U A A' h.A0 c c' h.c0 w (by rw[vZ];omega) (Jv (HI.out.now HX.out).classes.row) HL HU;rw[HR.out,vZ]at H;exact H
theorem q47{w:World}{B c n:Nat}{A:Option Addr}{L:List (Int×Int)}(h:zd zi 2 w B A c L):zd zi 2 w B A c (L.take n):=
 ⟨Nat.le_trans (by rw[List.length_take];omega) h.le,h.cap,h.row.take_ n⟩
theorem qp4(st:List (Int×Int))(n:Nat)(hn:n≤1000000)(hs:st.length≤1000000)(A:Option Addr)(c:Nat)(w:World)(h:zd zi 2 w w.heap.size A c st):
  Calls Tryz.prog 94 #[.slice A st.length c,.int .i64 n] w fun e w'=>∃A1 c1 A2 c2,e= .returned (.tuple #[.slice A1 (st.take (st.length - n)).length c1,.slice A2 (st.drop (st.length - n)).length c2])∧
   zd zi 2 w w.heap.size A1 c1 (st.take (st.length - n))∧zd zi 2 w w.heap.size A2 c2 (st.drop (st.length - n))∧Below w.heap.size w w'∧w'.heap=w.heap:=by
 have hle:=h.le;have hcap:=h.cap;have HS:=zH h;obtain⟨d,hd⟩:∃d,st.length - n=d:=⟨_,rfl⟩
 have htl:(st.take (st.length - n)).length=d:=by rw[List.length_take];omega
 have hdl:(st.drop (st.length - n)).length=st.length - d:=by rw[List.length_drop];omega
 have HTL:=zH htl;have HDL:=zH hdl;rw[hd]at HTL HDL;rw[hd];have hw1:IntKind.i64.wrap ((st.length:Int) - (n:Int))=(st.length:Int) - (n:Int):=IntWalk.i64_in _ (by omega);have hdl0:d≤st.length:=by omega
 have hd0:(0:Int)≤(d:Int):=by omega
 have hd1:(d:Int)≤(st.length:Int):=by omega
 have hd2:(d:Int)≤(c:Int):=by omega
 have hd3:(st.length:Int)≤(c:Int):=by omega
 have hmx:max ((st.length:Int) - (n:Int)) 0=(d:Int):=by omega
 clear h htl hdl;rcases A with _|ad
 ·have hst:st=[]:=by
   cases st with
   |nil=>rfl
   |cons t r=>
    obtain⟨ad,e,_⟩:=HS.out.row.at_ (i:=0) (by simp);cases e
  subst hst;obtain rfl:d=0:=by simp at hdl0;exact hdl0
  clear hd hmx HTL HDL hle hs hdl0 hd0 hd1 hd2;have hw1:IntKind.i64.wrap (((0:Nat):Int) - (n:Int))=0 - (n:Int):=hw1;by_cases hn0:n=0
  ·subst hn0;go_enter Tryz.func94,Tryz.ntmps94;go_upto_region 2 with fail
   go_quiet (fail)
   all_goals
    go_wp2_with fail
    go_ret2
    exact⟨none,_,none,_,rfl,Vg rfl hcap,Vg rfl hcap,jf (zb _ _) _,rfl⟩
  ·have hng: -(n:Int)<0:=by omega
   have hm0:max (-(n:Int)) 0=0:=by omega
   go_enter Tryz.func94,Tryz.ntmps94;go_upto_region 2 with fail
   go_quiet (fail)
   all_goals
    go_wp2_with fail
    go_ret2
    exact⟨none,_,none,_,rfl,Vg rfl hcap,Vg rfl hcap,jf (zb _ _) _,rfl⟩
 ·by_cases hlt:(st.length:Int) - (n:Int)<0
  ·obtain rfl:d=0:=by omega
   go_enter Tryz.func94,Tryz.ntmps94;go_upto_region 2 with fail
   go_quiet (fail)
   go_wp2_with fail
   go_ret2
   exact⟨some ad,c,some ad,c,by first|rfl|(rw[HTL.out,HDL.out];rfl),q47 HS.out,HS.out,jf (zb _ _) _,rfl⟩
  ·have hde:(st.length:Int) - (n:Int)=(d:Int):=by omega
   rw[hde]at hw1 hmx hlt;have hw1:IntKind.i64.wrap ((st.length:Int) - (n:Int))=(d:Int):=by rw[hde];exact hw1
   by_cases hcd:c=d
   ·subst hcd;go_enter Tryz.func94,Tryz.ntmps94;go_upto_region 2 with fail
    go_quiet (fail)
    go_wp2_with fail
    go_ret2
    exact⟨some ad,c,some ad,0,by first|rfl|(rw[HTL.out,HDL.out];rfl)|(rw[HDL.out];rfl),q47 HS.out,Vg (List.eq_nil_of_length_eq_zero (by rw[HDL.out];omega)) (by omega),jf (zb _ _) _,rfl⟩
   ·go_enter Tryz.func94,Tryz.ntmps94;go_upto_region 2 with fail
    go_quiet (fail)
    go_wp2_with fail
    go_ret2
    exact⟨some ad,c,some (ad.add (d*2)),c - d,by first|rfl|(rw[HTL.out,HDL.out];rfl)|(rw[HDL.out];rfl),q47 HS.out,q9g HS.out hdl0,jf (zb _ _) _,rfl⟩
open Go.ChangeShapes Go.WideShapes Go.ChangeAt Go.RowKit Go.Shelf
attribute [local go_sem] Oper.semAt_some
theorem qdo{F:Fence}{n:Nat}{P:Program}(w:World){ops:Array Oper}{rest:List Oper}{o:Oper}{a:Act}{Q:Exit→Act→World→Prop}
  (hg:o.guard=none) (l c:Operand) (t:TypeId) (hop:o.op=Op.makeSlice t l c)
  (base:Nat) (e:TypeId) (i:TypeInfo) (z:Value) (size:Nat) (h1:P.underlying t=some (.slice e)) (h2:P.info? e=some i) (h3:i.zero=some z) (h4:i.size=size)
  (kl kc:IntKind) (L C:Int) (m:Nat) (hl:a.eval l= .int kl L) (hc:a.eval c= .int kc C) (hL:L=(m:Int)) (hC:C=(m:Int)) (b2:i.bytes*m≤281474976710656) (b3:m≤maxLen) (b4:base≤w.heap.size)
  (hK:∀w',w'.ownsRow base e size (.slice (some ⟨w.heap.size,0,none⟩) m m) m (madeCells z.cells (m*size)).toList→w.grownBy w' none→wpListIn F n P ops Q rest (a.put o.dst (.slice (some ⟨w.heap.size,0,none⟩) m m)) w'):
  wpListIn F n P ops Q (o::rest) a w:=by
 refine wpListIn_plain hg fun K hK'=> ?_;obtain⟨w',hrun,r1,r2⟩:=run_make_full (P:=P) w base t e i z size h1 h2 h3 h4 kl kc m b2 b3 b4;subst hL;subst hC;unfold Oper.wpIn;refine⟨?_,?_⟩
 ·simp[Oper.about,hop]
 ·rw[Oper.semAt_plain F _ _ (by rw[hop];intro c hc';cases hc')];simp[execOp,hop,hl,hc,hrun,Result.andThen];exact hK' _ _ (hK w' r1 r2)
def Qb(lo:Nat):List Deferred→Nat→World→Prop
 | [],_,_=>True
 |d::ds,hi,w=>∃D,d={target:= .collected D,args:= #[]}∧lo≤D∧D<hi∧w.heap[D]? =some (.deferred (some []))∧Qb lo ds D w
theorem Qb.keep{lo:Nat}{w w':World}:∀{ds:List Deferred} {hi:Nat},Qb lo ds hi w→(∀b,lo≤b→b<hi→w'.heap[b]? =w.heap[b]?)→Qb lo ds hi w'
 | [],_,_,_=>trivial
 |d::ds,hi,⟨D,e,h1,h2,h3,h4⟩,hk=>⟨D,e,h1,h2,(hk D h1 h2).trans h3,h4.keep fun b hb1 hb2=>hk b hb1 (by omega)⟩
theorem Qb.up{lo:Nat}{w:World}:∀{ds:List Deferred} {hi hi':Nat},Qb lo ds hi w→hi≤hi'→Qb lo ds hi' w
 | [],_,_,_,_=>trivial
 |d::ds,hi,hi',⟨D,e,h1,h2,h3,h4⟩,hk=>⟨D,e,h1,by omega,h3,h4⟩
theorem Qb.leaves{F:Fence}{n:Nat}{P:Program}{fn:Func}{tmps:Array Value}{R:Ending→World→Prop}{lo:Nat}:∀{ds:List Deferred} {hi:Nat} {w:World},Qb lo ds hi w→
  (∀w',Below lo w w'→LeavesIn F n P fn tmps R [] .returning w')→LeavesInM F n P fn tmps R ds .returning w
 | [],_,w,_,h=>h w (zb _ _)
 |d::ds,hi,w,⟨D,e,h1,h2,h3,h4⟩,h=>by
  subst e;refine⟨by simp,.inl ⟨D,_,rfl,run_takeDeferred h3,?_⟩⟩;have hb:Below lo w (w.putObj D (.deferred none)):=(zb lo w).grown (grownBy_putObj' w D _) (by have:=(Array.getElem?_eq_some_iff.1 h3).1;omega) (fun k e=>by cases e;exact h1);exact(h4.keep (w':=w.putObj D (.deferred none)) fun b _ hb2=>World.putObj_heap_other (by omega)).leaves fun w' hw=>h w' (hb.trans hw)
theorem qoh{β:Type}(g:Nat)(f:β→List Int):Own (fun s W=>zZ W g (f s)):=fun s X Y row hs hg hrow=>by
 have hs:X.heap[g]? =some (.cells ((f s).map (Value.int .i64)).toArray 3 (0,0)):=hs;exact(hg.block g (lt_of_block hs) (fun e=>by
  obtain⟨o,ho,hc⟩:=hrow g e.symm;rw[hs]at ho;cases ho;cases hc)).trans hs
theorem qjs{β:Type}(g:Nat)(vs:List Value)(T:TypeId):Own (fun(_:β) W=>zf W g vs T):=fun s X Y row hs hg hrow=>by
 have hs:X.heap[g]? =some (.cells vs.toArray T (0,0)):=hs;exact(hg.block g (lt_of_block hs) (fun e=>by
  obtain⟨o,ho,hc⟩:=hrow g e.symm;rw[hs]at ho;cases ho;cases hc)).trans hs
theorem q66{N g:Nat}{A B:World}(h:qF N g A B)(i:Nat)(v:Value):qF N g A (B.setCell ⟨g,i,none⟩ v):=
 ⟨by simpa using h.1,fun b b0 b1=>(Below.heap_setCell _ _ _ b b1).trans (h.2 b b0 b1)⟩
theorem qhy{N g:Nat}{A B:World}(h:qF N g A B)(hN:N≤B.heap.size)(o:Obj):qF N g A (B.alloc o):=
 ⟨by have:=h.1;simp;omega,fun b b0 b1=>(Below.heap_alloc B o b (by omega)).trans (h.2 b b0 b1)⟩
theorem qm3{N g:Nat}{A B:World}(h:qF N g A B):qF N g A B.drew:=h
theorem q2j{w:World}{a q:Addr}(h:q.block≠a.block)(v:Value):(w.setCell a v).cell? q=w.cell? q:=World.cell?_of_block (w:=w) (Below.heap_setCell w a v q.block h)
theorem max_up{a b:Int}:max a b=(if b>a then b else a):=by
 rw[Int.max_def];split<;>split<;>omega
abbrev YA(lv nv bv:Value)(k:Nat)(gv u7 u12 u13 u14 u15 u16 u34:Value)(ds:List Deferred):Act:={tmps:= #[lv,nv,undef,undef,.slice none 0 0,bv,undef,u7,nv,gv,nv,.int .i64 (k:Int),u12,u13,u14,u15,u16,undef,undef,undef,undef,undef,undef,undef,undef,undef,undef,undef,undef,undef,undef,undef,undef,undef,u34,undef],defers:=ds}
set_option maxHeartbeats 12800000 in
theorem qh9(l:List (Int×Int×Int))(n:Nat)(A:Option Addr)(c:Nat)(w:World)(hl:zd qw 3 w w.heap.size A c l)(hn:n≤64)(hll:l.length≤1000)(hok:Zj l n):
  Calls Tryz.prog 70 #[.slice A l.length c,.int .i64 n] w fun e w'=>∃g,e= .returned (.slice (some ⟨g,0,none⟩) n n)∧w.heap.size≤g∧zZ w' g (ZS l n)∧Below w.heap.size w w':=by
 obtain⟨i1,hi1,hy0,hy1,hy2⟩:=jg kp;have HL:=zH hl;have HOK:=zH hok;have hle:=hl.le;have hcap:=hl.cap;clear hl hok;refine(callsIn_wide (n:=4)).1 ?_;refine callsIn_of_wp_marks Tryz.func70 rfl trivial ?_ rfl;simp only[Tryz.ntmps70,List.size_toArray,List.length_cons,List.length_nil,Nat.reduceAdd,Nat.reduceSub,Array.replicate_succ,Array.replicate_zero,List.push_toArray,List.append_toArray,List.nil_append,List.cons_append]
 gi_wp2_with (gi_at_make;refine qdo _ rfl _ _ 26 rfl w.heap.size 3 i1 (.int .i64 0) 1 Tryz.underlying26 hi1 hy0 hy1 .i64 .i64 _ _ n rfl rfl rfl rfl (by rw[hy2];omega) (by unfold maxLen;omega) (zn _) ?_;intro w3 hown hgrow;have HO3:=zH hown;have HB3:=zH ((zb w.heap.size w).grown hgrow (zn _) (fun k hk=>by cases hk));clear hown hgrow)
 have hN3:zZ w3 w.heap.size (List.replicate n 0):=by
  have h1:=YV HO3.out;rw[JF (v:= .int .i64 0) rfl]at h1;unfold zZ;rw[List.map_replicate];exact h1
 obtain⟨g,hg⟩:∃g,w.heap.size=g:=⟨_,rfl⟩
 obtain⟨b,hb⟩:∃b,w3.heap.size=b:=⟨_,rfl⟩
 have hgb:g<b:=by rw[←hb];rw[hg]at hN3;exact zf.lt hN3
 have hN4:zZ (w3.alloc (.cells #[.slice (some ⟨g,0,none⟩) n n] 26)) g (List.replicate n 0):=by rw[←hg];exact hN3.keep ((zb _ _).alloc (zn _) _)
 have hX4:Go.Boxed (w3.alloc (.cells #[.slice (some ⟨g,0,none⟩) n n] 26)) b 26 (.slice (some ⟨g,0,none⟩) n n):=by rw[←hb];exact Go.Boxed.new w3 26 _
 have hB4:Below g w (w3.alloc (.cells #[.slice (some ⟨g,0,none⟩) n n] 26)):=by
  have:=HB3.out;rw[hg]at this;exact this.alloc (by omega) _
 have hz4:(w3.alloc (.cells #[.slice (some ⟨g,0,none⟩) n n] 26)).heap.size=b+1:=by simp[hb]
 have HL:=zH (hg ▸ HL.out);simp only[hg,hb];generalize w3.alloc (.cells #[.slice (some ⟨g,0,none⟩) n n] 26)=w4 at*
 clear HO3 hN3 hb HB3;refine wpIn_loop (fun a W=>∃(k:Nat) (ds:List Deferred) (u12 u13 u14 u34:Value),k≤n∧a=YA (.slice A l.length c) (.int .i64 n) (.pointer (some ⟨b,0,none⟩)) k (.slice (some ⟨g,0,none⟩) n n) undef u12 u13 u14 undef undef u34 ds∧
   Qb (b+1) ds W.heap.size W∧zZ W g (Vt l k (List.replicate n 0))∧Go.Boxed W b 26 (.slice (some ⟨g,0,none⟩) n n)∧Below g w W)
  (fun a _=>n - (intOf (a.tmps.getD 11 undef)).toNat) ⟨0,[],undef,undef,undef,undef,Nat.zero_le _,rfl,trivial,hN4,hX4,hB4⟩ ?_
 rintro a W ⟨k,ds,u12,u13,u14,u34,hk,rfl,hM,hN,hX,hB⟩;clear hN4 hX4 hB4 hz4;have HLW:Hid (Yx W g g A l):=zH (fun j t hj=>by
  obtain⟨ad,e,hab,c0,c1,c2⟩:=HL.out.row j t hj;have hb0:∀i,(zc (ad.add (j*3)) i).block=ad.block:=fun i=>zt _ _;exact⟨ad,e,hab,by omega,(hB.cell (by rw[zt];exact hab)).trans c0,(hB.cell (by rw[hb0];exact hab)).trans c1,(hB.cell (by rw[hb0];exact hab)).trans c2⟩)
 by_cases hlt:k<n;rotate_left
 ·obtain rfl:k=n:=by omega
  have hc:=hX.cell;unfold YA
  gi_wp2
  refine hM.leaves fun w' hw=> ?_;refine⟨_,results_tmp rfl _ _ _,g,rfl,by omega,?_,by rw[hg];exact hB.trans (hw.mono (by omega))⟩;unfold ZS;exact(hw.block g (by omega)).trans hN
 have hki:(k:Int)<(n:Int):=by omega
 obtain⟨O,hO⟩:∃O,Vt l k (List.replicate n 0)=O:=⟨_,rfl⟩
 have HLP:Hid (jT l n O (k*l.length)):=zH (hO ▸ jT.rounds HOK.out k);have HON:Hid (Vt l (k+1) (List.replicate n 0)=Qu l.reverse O):=zH (by rw[←hO];rfl);rw[hO]at hN;clear hO;have HN:=zH hN;have HX:=zH hX;have HB:=zH hB;have HM:=zH hM;clear hN hX hB hM;unfold YA
 gi_wp2_with (refine⟨trivial,?_⟩;gi_at_call 100;refine(qng Fence.wide _ trivial rfl _ _ _ _).mono ?_;rintro e w' ⟨rfl,rfl⟩)
 generalize hWB:W.alloc (.cells #[.slice A l.length c] 75)=WB;have hsz:WB.heap.size=W.heap.size+1:=by rw[←hWB];simp
 have hbs:WB.cell? ⟨W.heap.size,0,none⟩=some (.slice A l.length c):=by rw[←hWB,World.cell?_alloc_at _ _ _ _ rfl];rfl
 have hbW:Below W.heap.size W WB:=by rw[←hWB];exact(zb _ _).alloc (zn _) _
 have hNB:zZ WB g O:=HN.out.keep hbW;have hXB:Go.Boxed WB b 26 (.slice (some ⟨g,0,none⟩) n n):=by rw[←hWB];exact HX.out.alloc _
 have hbl:b<W.heap.size:=HX.out.lt;have hBB:Below g w WB:=HB.out.trans (hbW.mono (by omega));have hMB:Qb (b+1) ds W.heap.size WB:=HM.out.keep fun x _ hx=>hbW.block x hx;have hLB:Yx WB (W.heap.size+1) g A l:=fun j t hj=>by
  obtain⟨ad,e,h0,h1,hc⟩:=HLW.out.keep (N:=g) ⟨hbW.size,fun x hx _=>hbW.block x (by omega)⟩ j t hj;exact⟨ad,e,by omega,h1,hc⟩
 have HLF:=zH (⟨HOK.out,HLP.out⟩:Zj l n∧jT l n O (k*l.length));clear hWB HN HX HB HM;refine wpIn_rangeFunc_ownH rfl (by omega) (gf:=123) (lb:= #[.pointer (some ⟨W.heap.size,0,none⟩)]) rfl trivial (enters_of Tryz.func123 (by kernel_rfl) rfl)
  (qep Fence.wide 3 trivial rfl (by omega) W.heap.size (W.heap.size+1) g A c l (by omega) WB (by omega) (by omega) (by omega) hbs hLB)
  (fun a b=>a.trans b) (fun W l o o' hl _ _ _=>qF.putObj (by omega)) (zb _ _) (fun _=>rfl)
  (fun pre X=>(zZ X g (Qu (pre.map (fun x=>l[x])) O)∧Go.Boxed X b 26 (.slice (some ⟨g,0,none⟩) n n))∧qF (W.heap.size+1) g WB X∧Below g w X)
  (fun _ _ _=>False)
  (OwnFrom.and (OwnFrom.and (Own.from (qoh g (fun(pre:List (Fin l.length))=>Qu (pre.map (fun x=>l[x])) O)) _) (Own.from (boxed_own b 26 (fun _=> .slice (some ⟨g,0,none⟩) n n)) _)) (OwnFrom.and (q76 (by omega) (by omega)) (ownFrom_below (by omega) (by omega))))
  (fun _ _ _ _ _ hs _ _=>hs)
  ⟨⟨hNB,hXB⟩,qF.refl _ _ _,hBB⟩
  (fun x a' X=>∃Bx,(W.heap.size+1≤Bx∧a'=YA (.slice A l.length c) (.int .i64 n) (.pointer (some ⟨b,0,none⟩)) k (.slice (some ⟨g,0,none⟩) n n) (.pointer (some ⟨Bx,0,none⟩)) (.bool true) (.slice A l.length c) (.func (.func 123) #[] #[.pointer (some ⟨W.heap.size,0,none⟩)]) (.int .i64 (x.1:Int)) (wayV l[x]) u34 [])∧zf X Bx [.int .i64 l[x].1,.int .i64 l[x].2.1,.int .i64 l[x].2.2] 78)
  (fun x a' s X Y row ⟨Bx,h1,h2⟩ hg hr=>⟨Bx,h1,qjs Bx _ _ () X Y row h2 hg (fun r e=>(hr r e).2)⟩) ?assign ?body ?done ?stop
 case assign=>
  rintro m pre x X K ⟨⟨hN,hX⟩,hK,hB⟩ hgo;unfold encW wayV;have hBxz:W.heap.size+1≤X.heap.size:=by have:=hK.1;omega
  have hgo':=zH hgo;clear hgo
  gi_wp2
  exact hgo'.out _ _ ((KeepsOthers.alloc _ _).from _) ⟨by simp,fun y hy _=>Below.heap_alloc X _ y (by omega)⟩ ⟨⟨hN.keep ((zb _ _).alloc (zn _) _),hX.alloc _⟩,qhy hK hBxz _,hB.alloc (by omega) _⟩ ⟨X.heap.size,⟨hBxz,rfl⟩,zf.new X _ _⟩
 case body=>
  rintro m pre x a' X hm ⟨r,hr⟩ ⟨⟨hN,hX⟩,hK,hB⟩ ⟨Bx,⟨hBx,rfl⟩,hW⟩ hpre;have hmx:Tryz.prog.follows .mixedOrders=true:=by kernel_rfl
  have HSN:Hid (Qu ((pre++[x]).map (fun x=>l[x])) O=Qq (Qu (pre.map (fun x=>l[x])) O) l[x]):=zH (by rw[List.map_append];exact qif _ _ _);have hmem:∀t ∈pre.map (fun x=>l[x]),t ∈l:=fun t ht=>by
   obtain⟨y,_,rfl⟩:=List.mem_map.mp ht;exact List.getElem_mem _
  have hLQ:=jT.fold HLF.out.1 _ _ _ hmem HLF.out.2;obtain⟨s0,s1⟩:=HLF.out.1.src _ (List.getElem_mem x.2);obtain⟨t0,t1⟩:=HLF.out.1.cost _ (List.getElem_mem x.2);obtain⟨Q,hQ⟩:∃Q,Qu (pre.map (fun x=>l[x])) O=Q:=⟨_,rfl⟩
  rw[hQ]at HSN hLQ hN;have hKb:k*l.length+(pre.map (fun x=>l[x])).length≤66000:=by
   have h1:k*l.length≤64*1000:=Nat.mul_le_mul (by omega) hll;rw[List.length_map];omega
  generalize k*l.length+(pre.map (fun x=>l[x])).length=KK at hKb hLQ;have hq:=hLQ.at_low l[x].2.1;have hql:Q.length=n:=hLQ.len;clear hmem hQ hLQ;dsimp only[Fin.getElem_fin]at HSN s0 s1 t0 t1 hq hW;generalize l[x.1]=t at*
  obtain⟨a,b',c'⟩:=t;dsimp only at s0 s1 t0 t1 hq hW;obtain⟨p,rfl⟩:=Int.eq_ofNat_of_zero_le s0;have hpn:p<n:=by omega
  have hpi:(p:Int)<(n:Int):=by omega
  have HST:Hid (Qq Q ((p:Int),b',c')=Q.set p (if atI Q b'+c'>oN Q p then atI Q b'+c' else oN Q p)):=zH (by unfold Qq upW;rw[Int.toNat_natCast]);have HC7:Hid (X.cell? ⟨g,p,none⟩=some (.int .i64 (oN Q p))):=zH (hN.at_ (by omega));have hf7:=zf.free hN p;have HAT:Hid (Q.length=n):=zH hql;obtain⟨vq,hvq⟩:∃v,atI Q b'=v:=⟨_,rfl⟩
  have HVQ:=zH hvq;obtain⟨vo,hvo⟩:∃v,oN Q p=v:=⟨_,rfl⟩
  rw[hvo]at HC7 HST;rw[hvq]at HST hq;have hwr:IntKind.i64.wrap (vq+c')=vq+c':=IntWalk.i64_in _ ⟨by omega,by omega⟩;obtain⟨vm,hvm⟩:∃v,(if vq+c'>vo then vq+c' else vo)=v:=⟨_,rfl⟩
  have hmax:max vo (vq+c')=vm:=by rw[max_up];exact hvm
  rw[hvm]at HST;have hb0:=hX.cell;have w0:=hW.cells 0 _ rfl;have w1:=hW.cells 1 _ rfl;have w2:=hW.cells 2 _ rfl;have HN:=zH hN;have HX:=zH hX;have HKB:=zH hK;have HB:=zH hB;clear hvq hvo hW hN hX hK hB s0 s1 t0 t1 hq hql;unfold YA
  gi_wp2
  refine q6t hmx (by kernel_rfl) (S:=fun w'=>w'.cell? ⟨b,0,none⟩=some (.slice (some ⟨g,0,none⟩) n n)∧w'.cell? ⟨Bx,0,none⟩=some (.int .i64 (p:Int))∧w'.cell? ⟨Bx,1,none⟩=some (.int .i64 b')∧w'.cell? ⟨Bx,2,none⟩=some (.int .i64 c')) ⟨hb0,w0,w1,w2⟩ (fun hHeld=> ?_);have HC7:Hid (X.drew.cell? ⟨g,p,none⟩=some (.int .i64 vo)):=HC7;have HND:Hid (zZ X.drew g Q):=HN;have HSL:Hid (zd zo 1 X.drew X.drew.heap.size (some ⟨g,0,none⟩) n Q):=zH (HND.out.slc HAT.out (by omega));have HS0:Hid ((fun w'=>w'.cell? ⟨b,0,none⟩=some (.slice (some ⟨g,0,none⟩) n n)∧w'.cell? ⟨Bx,0,none⟩=some (.int .i64 (p:Int))∧w'.cell? ⟨Bx,1,none⟩=some (.int .i64 b')∧w'.cell? ⟨Bx,2,none⟩=some (.int .i64 c')) X.drew):=zH ⟨hb0,w0,w1,w2⟩;have HSF:Hid (∀v,(fun w'=>w'.cell? ⟨b,0,none⟩=some (.slice (some ⟨g,0,none⟩) n n)∧w'.cell? ⟨Bx,0,none⟩=some (.int .i64 (p:Int))∧w'.cell? ⟨Bx,1,none⟩=some (.int .i64 b')∧w'.cell? ⟨Bx,2,none⟩=some (.int .i64 c')) (X.drew.setCell ⟨g,p,none⟩ v)):=zH (fun v=>⟨(q2j (q:=⟨b,0,none⟩) (by show b≠g;omega) v).trans hb0,(q2j (q:=⟨Bx,0,none⟩) (by show Bx≠g;omega) v).trans w0,(q2j (q:=⟨Bx,1,none⟩) (by show Bx≠g;omega) v).trans w1,(q2j (q:=⟨Bx,2,none⟩) (by show Bx≠g;omega) v).trans w2⟩);have HKX:=zH (KeepsOthers.drew X);have HKK:Hid (∀v,qF (W.heap.size+1) g X (X.drew.setCell ⟨g,p,none⟩ v)):=zH (fun v=>q66 (qm3 (qF.refl _ _ X)) p v);have HKBd:Hid (qF (W.heap.size+1) g WB X.drew):=HKB;have HXd:Hid (Go.Boxed X.drew b 26 (.slice (some ⟨g,0,none⟩) n n)):=HX;have HBd:Hid (Below g w X.drew):=zH HB.out.drew;clear HKB HX HB HN hHeld hb0 w0 w1 w2 hr;clear hf7;generalize X.drew=Y at HC7 HSL HND HS0 HSF HKX HKK HKBd HXd HBd⊢
  have⟨hb0,w0,w1,w2⟩:=HS0.out;have hHeld:=HS0.out;have hf7:=zf.free HND.out p;refine mT 0 (h:=mT 1 (h:=mT 2 (h:=mT 3 (h:=mT 4 (h:=mT 5 (h:=mT 6 (h:=mT 8 (h:=mT 9 (h:=mT 10 (h:=mT 12 (h:=mT 13 (h:= ?_))))))))))));refine wpAnyH_ready (rs:=[7,11]) (by kernel_rfl) (by simp) ?_;refine(AllReadyH.cons (o:=_) rfl (fun K hK=> ?_) (AllReadyH.cons (o:=_) rfl (fun K hK=> ?_) AllReadyH.nil))
  ·have c7:=HC7.out;go_simp;refine hK.out _ _ HS0.out (fun hHeld=> ?_);clear hK K;try simp only[sA,sB,sC,Act.put,sD,sE,sF]
   refine wpAnyH_ready (rs:=[11]) (by kernel_rfl) (by simp) ?_;refine AllReadyH.cons (o:=_) rfl (fun K hK=> ?_) AllReadyH.nil;go_simp;(go_at_call 73;(with_reducible refine(q6l HAT HSL HVQ).mono ?_);rintro e w6 ⟨rfl,rfl⟩)
   refine hK.out _ _ HS0.out (fun hHeld=> ?_);clear hK K;try simp only[sA,sB,sC,Act.put,sD,sE,sF]
   refine mT 14 (h:=mT 15 (h:=mT 16 (h:= ?_)));refine wpAnyH_ready (rs:=[17]) (by kernel_rfl) (by simp) ?_;refine AllReadyH.cons (o:=_) rfl (fun K hK=> ?_) AllReadyH.nil;go_simp;refine hK.out _ _ (HSF.out _) (fun hHeld=> ?_);clear hK K;try simp only[sA,sB,sC,Act.put,sD,sE,sF]
   refine wpAnyH_done (by kernel_rfl) ?_ _;refine JP.normal ?_
   gi_wp2
   exact⟨(HKX.out.trans (KeepsOthers.setCell _ _ _)).from _,HKK.out _,⟨by rw[HSN.out,HST.out];exact HND.out.set vm,HXd.out.kept (q54 _ _ _ _) (fun e=>by injection e with e;omega)⟩,q66 HKBd.out _ _,HBd.out.setCell (p:=⟨g,p,none⟩) (zn _) _⟩
  ·go_simp;(go_at_call 73;(with_reducible refine(q6l HAT HSL HVQ).mono ?_);rintro e w6 ⟨rfl,rfl⟩)
   refine hK.out _ _ HS0.out (fun hHeld=> ?_);clear hK K;try simp only[sA,sB,sC,Act.put,sD,sE,sF]
   refine mT 14 (h:= ?_);refine wpAnyH_ready (rs:=[7]) (by kernel_rfl) (by simp) ?_;refine AllReadyH.cons (o:=_) rfl (fun K hK=> ?_) AllReadyH.nil;have c7:=HC7.out;go_simp;refine hK.out _ _ HS0.out (fun hHeld=> ?_);clear hK K;try simp only[sA,sB,sC,Act.put,sD,sE,sF]
   refine mT 15 (h:=mT 16 (h:= ?_));refine wpAnyH_ready (rs:=[17]) (by kernel_rfl) (by simp) ?_;refine AllReadyH.cons (o:=_) rfl (fun K hK=> ?_) AllReadyH.nil;go_simp;refine hK.out _ _ (HSF.out _) (fun hHeld=> ?_);clear hK K;try simp only[sA,sB,sC,Act.put,sD,sE,sF]
   refine wpAnyH_done (by kernel_rfl) ?_ _;refine JP.normal ?_
   gi_wp2
   exact⟨(HKX.out.trans (KeepsOthers.setCell _ _ _)).from _,HKK.out _,⟨by rw[HSN.out,HST.out];exact HND.out.set vm,HXd.out.kept (q54 _ _ _ _) (fun e=>by injection e with e;omega)⟩,q66 HKBd.out _ _,HBd.out.setCell (p:=⟨g,p,none⟩) (zn _) _⟩
 case done=>
  rintro D ys X hD rfl ⟨⟨hN,hX⟩,hK,hB⟩ hKD;rw[qiv,←HON.out]at hN;have hM':Qb (b+1) ({target:= .collected D,args:= #[]}::ds) X.heap.size X:=⟨D,rfl,by omega,(Array.getElem?_eq_some_iff.1 hKD).1,hKD,(hMB.keep fun y _ hy=>hK.2 y (by omega) (by omega)).up (by omega)⟩
  have ek:((k+1:Nat):Int)=(k:Int)+1:=by omega
  gi_wp2
  refine⟨⟨k+1,_,_,_,_,_,by omega,by(try unfold YA);rw[ek],hM',hN,hX,hB⟩,?_⟩;simp[YA,intOf];omega
 case stop=>
  rintro D c pre X _ _ h _;exact h.elim
theorem qni{α:Type}{f:Nat→α}{a:Nat}{b:α}(h:f a=b):zU f a b=f:=funext fun x=>by
 unfold zU;split
 ·rename_i e;rw[e,h]
 ·rfl
theorem qlg{P:List (List Nat)}(h:∀c ∈P,c≠ []):P.length≤P.flatten.length:=by
 induction P with
 |nil=>exact zn _
 |cons c P ih=>
  have h1:=ih (fun d hd=>h d (List.mem_cons_of_mem _ hd));have h2:0<c.length:=List.length_pos_iff.mpr (h c (List.mem_cons_self ..));rw[List.flatten_cons,List.length_append,List.length_cons];omega
theorem zV.parts_le{EL:List (List Int)}{n:Nat}{S:Wk}(h:zV EL n S):S.parts.length≤n:=Nat.le_trans (qlg (fun c hc=>(h.srt c hc).1)) h.lens.2.2
theorem zV.split{EL:List (List Int)}{n:Nat}{S:Wk}(h:zV EL n S){v:Nat}(hv:v ∈S.opn):∃O X,S.opn=O++v::X∧v ∉X∧∀x ∈v::X,x<n:=by
 obtain⟨O,X,e⟩:=List.append_of_mem hv;refine⟨O,X,e,fun q=> ?_,fun x hx=>h.olt x (by rw[e];exact List.mem_append_right _ hx)⟩;have hp:=h.oinc;rw[e,List.pairwise_append,List.pairwise_cons]at hp;have:=hp.2.1.1 v q;omega
theorem zV.left{EL:List (List Int)}{n:Nat}{S:Wk}(h:zV EL n S){W:List Nat}{v p:Nat}(hw:S.way=W++[p]++[v])(hg:S.gone v=(eds EL v).length)(hb:S.back v<S.place v):
  zV EL n {S with way:=W++[p],back:=zU S.back p (min (S.back p) (S.back v))}:=by
 have hpw:p ∈S.way:=by rw[hw];simp
 have hvw:v ∈S.way:=by rw[hw];simp
 have hpv:S.place p<S.place v:=by
  have hp:=h.winc;rw[hw,List.pairwise_append]at hp;exact hp.2.2 p (by simp) v (by simp)
 obtain⟨a1,a2,u,hu,a3,a4⟩:=h.bin p (h.wsub p hpw);obtain⟨b1,b2,x,hx,b3,b4⟩:=h.bin v (h.wsub v hvw);have h1:zV EL n (S.lower p (min (S.back p) (S.back v))):=by
  refine h.lower hpw (by omega) (by omega) ?_;by_cases hm:S.back p≤S.back v
  ·rw[show min (S.back p) (S.back v)=S.back p by omega];exact⟨u,hu,a3,a4⟩
  ·rw[show min (S.back p) (S.back v)=S.back v by omega];refine⟨x,hx,b3,?_⟩;have hpx:p=v∨Way EL n p v:=h.tree p hpw v (h.wsub v hvw) (Nat.le_of_lt hpv);rcases hpx with rfl|hpx
   ·omega
   ·rcases b4 with rfl|b4
    ·exact .inr hpx
    ·exact .inr (hpx.join (h.olt v (h.wsub v hvw)) b4)
 have hvp:v≠p:=fun e=>by subst e;omega
 have hlast:∀q ∈W,S.place q<S.place p:=fun q hq=>by
  have hp:=h.winc;rw[hw,List.append_assoc,List.pairwise_append]at hp;exact hp.2.2 q hq p (by simp)
 have hbv:(S.lower p (min (S.back p) (S.back v))).back v=S.back v:=Zg _ _ hvp;have h2:=h1.pop (W:=W++[p]) (v:=v) hw hg (by rw[hbv];exact hb) (fun q hq hm=>by
  rw[hbv];rcases List.mem_append.mp hq with hq|hq
  ·have h3:=hm p (by simp);have h3:S.place p≤S.place q:=h3;have:=hlast q hq;omega
  ·rw[List.mem_singleton]at hq;subst hq;have e:(S.lower q (min (S.back q) (S.back v))).back q=min (S.back q) (S.back v):=kq _ _ _;rw[e];omega)
 have e:(S.lower p (min (S.back p) (S.back v))).pop={S with way:=W++[p],back:=zU S.back p (min (S.back p) (S.back v))}:=by
  unfold Wk.pop Wk.lower;dsimp only;rw[hw,List.dropLast_concat]
 rw[e]at h2;exact h2
def qpq(B g:Nat)(EL:List (List Int))(n:Nat)(S:Wk)(W:List Nat)(w:World)(e:Ending)(w':World):Prop:=
 e= .returned (.tuple #[])∧(∃S' a' ρ',zI w' B g EL n S' a' ρ'∧zV EL n S'∧S'.way=W∧S'.place=S.place)∧Below B w w'
set_option maxHeartbeats 3200000 in
theorem qg6(B g n v:Nat)(EL:List (List Int))(S:Wk)(W:List Nat)(a:QO)(ρ:Nat→Nat)(w:World)(h:zI w B g EL n S a ρ)(hT:zV EL n S)(hw:S.way=W++[v])(hg:S.gone v=(eds EL v).length):
  Calls Tryz.prog 99 #[.pointer (some ⟨g,0,none⟩),.int .i64 (v:Int)] w (qpq B g EL n S W w):=by
 obtain⟨met,place,back,gone,way,opn,parts⟩:=S;obtain⟨gp,gb,gg,E,ce,Ay,cy,Ao,co,Ap,cp,vs⟩:=a;dsimp only at hw hg;subst hw;have hn1:=h.n1;have hge:=h.g_ge;obtain⟨hg0,hg1,hg2,hg3⟩:=hge;have hlen:(W++[v]).length=W.length+1:=by simp
 have hvw:v ∈W++[v]:=by simp
 have hv:v<n:=hT.olt v (hT.wsub v hvw);have hwl:=hT.lens.1;dsimp only at hwl hg1 hg2 hg3;rw[hlen]at hwl;obtain⟨gy,rfl,hc1,hc2,hgy,_⟩:=Yo h.way (by dsimp only;rw[hlen];omega);dsimp only at hc1;rw[hlen]at hc1;have q5:=h.blk.cells 5 _ rfl;have f5:=h.blk.free 5;dsimp only at q5;rw[hlen]at q5;have HI:=zH h;have HW1:=zH (h.way_cut (O:=W) (X:=[v]) rfl);have X1:=zH (h.cell_below (zb B w) 5 (.slice (some ⟨gy,0,none⟩) W.length cy));dsimp only at HW1;have HT:=zH hT;have HG:=zH hg;obtain⟨k,hk⟩:∃k,W.length=k:=⟨_,rfl⟩
 rw[hk]at q5 hwl hc1 HW1 X1;have HK:=zH hk;clear h hT hg hk hlen hvw;go_enter Tryz.func99,Tryz.ntmps99;go_wp2_with fail
 go_region
 have HW2:=zH (HW1.out.keep (zb _ _).drew);have X2:=zH X1.out.drew;clear q5 f5 HW1 X1;generalize(w.setCell ⟨g,5,none⟩ (.slice (some ⟨gy,0,none⟩) k cy)).drew=w2 at*
 have q2:=HW2.out.blk.cells 2 _ rfl;have q3:=HW2.out.blk.cells 3 _ rfl;obtain⟨c1,_⟩:=HW2.out.p_at hv;obtain⟨c2,_⟩:=HW2.out.b_at hv;dsimp only at q2 q3 c1 c2;by_cases hbp:back v=(place v:Int)
 ·have hcmp:(back v==(place v:Int))=true:=by simpa using hbp
  go_wp2_with fail
  go_region
  have HW3:=zH (HW2.out.keep (zb _ _).drew);have X3:=zH X2.out.drew;generalize w2.drew=w3 at*
  clear q2 q3 c1 c2 HW2 X2;obtain⟨O,Y,ho,hY,hlt⟩:=HT.out.split (HT.out.wsub v (by simp));have HOE:=zH ho;have hcl:=qgb B g n v EL _ O Y _ _ w3 HW3.out ho hY hlt HT.out.lens.2.1 HT.out.parts_le;have HCL:=zH hcl;clear hcl ho hY hlt;go_upto_region 3 with(go_at_call 122;go_loud (refine HCL.out.mono ?_);rintro e w4 ⟨rfl,⟨c,a4,ρ4,hp,hpw,h4⟩,hb⟩;have HP:=zH hp;have HPW:=zH hpw;have HW4:=zH h4;have X4:=zH (X3.out.trans hb);clear hp hpw h4 hb)
  clear HCL HW3 X3;have HT4:Hid (zV EL n ⟨met,place,fun x=>if x ∈v::Y then vj else back x,gone,W,O,parts++[c]⟩):=zH (by
   have:=HT.out.close (W:=W) (O:=O) (X:=Y) (c:=c) (v:=v) rfl HOE.out HG.out hbp HP.out HPW.out;unfold Wk.close at this;dsimp only at this;rw[List.dropLast_concat]at this;exact this)
  obtain⟨gp4,gb4,gg4,E4,ce4,Ay4,cy4,Ao4,co4,Ap4,cp4,vs4⟩:=a4;try dsimp only at HW4
  have q5:=HW4.out.blk.cells 5 _ rfl;have q3:=HW4.out.blk.cells 3 _ rfl;dsimp only at q5 q3;rw[HK.out]at q5;rcases List.eq_nil_or_concat W with hW|⟨W',p,hW⟩
  ·have hk0:k=0:=by rw[←HK.out,hW];rfl
   have HWE:=zH hW;subst hk0;clear hW;go_wp2_with fail
   go_end0
   exact⟨rfl,⟨_,_,_,HW4.out,HT4.out,rfl,rfl⟩,X4.out⟩
  ·have hk0:k=W'.length+1:=by rw[←HK.out,hW];simp
   rw[List.concat_eq_append]at hW;have HWE:=zH hW;have hpw:p ∈W:=by rw[hW];simp
   have hpn:p<n:=HT4.out.olt p (HT4.out.wsub p hpw);obtain⟨k',hk'⟩:∃z,W'.length=z:=⟨_,rfl⟩
   rw[hk']at hk0;obtain⟨gy4,hy4,_,_,_,_⟩:=Yo HW4.out.way (by show 0<W.length;rw[HK.out];omega);dsimp only at hy4;have hrow:w4.ownsRow B 3 1 (.slice Ay4 W.length cy4) W.length (qg W):=HW4.out.way;subst hy4;have cw:=Yp hrow (JI (l:=W) (j:=k') (v:=p) (by rw[hW,←hk'];simp));obtain⟨cp',fp'⟩:=HW4.out.b_at hpn;obtain⟨cv,_⟩:=HW4.out.b_at hv;dsimp only at cp' fp' cv;have hpY:p ∉v::Y:=fun q=>(HT4.out.clt p (by rw[List.flatten_append];exact List.mem_append_right _ (by simpa using HP.out.mem_iff.mpr q))).2.2.1 (HT4.out.wsub p hpw);rw[if_neg hpY]at cp';rw[if_pos (List.mem_cons_self ..)]at cv;have hpb:=(HT4.out.bin p (HT4.out.wsub p hpw)).2.1;have hpp:=(HT4.out.opos p (HT4.out.wsub p hpw)).2;have hmet:=HT.out.met_le;dsimp only at hpb hpp hmet;rw[if_neg hpY]at hpb;have hbt:back p≤9223372036854775807:=by omega
   have HPY:=zH hpY;subst hk0;clear hW hpw hk' hrow hpb hpp hmet hpY;go_upto_region 4 with fail
   go_region
   go_upto_region 5 with fail
   go_region
   have HW5:=(HW4.out.back (v:=p) (k:=min (back p) vj)).keep (zb _ _).drew.drew;have e:zU (fun x=>if x ∈v::Y then vj else back x) p (min (back p) vj)=fun x=>if x ∈v::Y then vj else back x:=qni (by rw[if_neg HPY.out];show back p=min (back p) 9223372036854775807;omega)
   dsimp only at HW5;rw[e]at HW5;go_end0
   exact⟨rfl,⟨_,_,_,HW5,HT4.out,rfl,rfl⟩,(X4.out.setCell (p:=⟨gb4,p,none⟩) HW4.out.g_ge.2.2.1 _).drew.drew⟩
 ·have hcmp:(back v==(place v:Int))=false:=by simpa using hbp
  have hbl:back v<(place v:Int):=by
   have h1:=(HT.out.bin v (HT.out.wsub v (by simp))).2.1;dsimp only at h1;omega
  have q5:=HW2.out.blk.cells 5 _ rfl;dsimp only at q5;rw[HK.out]at q5;rcases List.eq_nil_or_concat W with hW|⟨W',p,hW⟩
  ·have hk0:k=0:=by rw[←HK.out,hW];rfl
   have HTP:Hid (zV EL n ⟨met,place,back,gone,W,opn,parts⟩):=zH (by
    have:=HT.out.pop (W:=W) (v:=v) rfl HG.out hbl (fun p hp=>by rw[hW]at hp;cases hp);unfold Wk.pop at this;dsimp only at this;rw[List.dropLast_concat]at this;exact this)
   subst hk0;clear hW;go_wp2_with fail
   go_region
   go_wp2_with fail
   go_end0
   exact⟨rfl,⟨_,_,_,HW2.out.keep (zb _ _).drew,HTP.out,rfl,rfl⟩,X2.out.drew⟩
  ·have hk0:k=W'.length+1:=by rw[←HK.out,hW];simp
   rw[List.concat_eq_append]at hW;have hpw:p ∈W++[v]:=by rw[hW];simp
   have hpn:p<n:=HT.out.olt p (HT.out.wsub p hpw);obtain⟨k',hk'⟩:∃z,W'.length=z:=⟨_,rfl⟩
   rw[hk']at hk0;have hrow:w2.ownsRow B 3 1 (.slice (some ⟨gy,0,none⟩) W.length cy) W.length (qg W):=HW2.out.way;have cw:=Yp hrow (JI (l:=W) (j:=k') (v:=p) (by rw[hW,←hk'];simp));obtain⟨cp',fp'⟩:=HW2.out.b_at hpn;dsimp only at cp' fp';have HTL:Hid (zV EL n ⟨met,place,zU back p (min (back p) (back v)),gone,W,opn,parts⟩):=zH (by
    have:=HT.out.left (W:=W') (v:=v) (p:=p) (by rw[hW]) HG.out hbl;dsimp only at this;rw[←hW]at this;exact this)
   subst hk0;clear hW hpw hk' hrow;go_wp2_with fail
   go_region
   go_upto_region 4 with fail
   go_region
   go_upto_region 5 with fail
   go_region
   have HW5:=(HW2.out.back (v:=p) (k:=min (back p) (back v))).keep (zb _ _).drew.drew.drew;go_end0
   exact⟨rfl,⟨_,_,_,HW5,HTL.out,rfl,rfl⟩,(X2.out.setCell (p:=⟨gb,p,none⟩) hg2 _).drew.drew.drew⟩
def qd6(base:Nat)(w:World)(h:zl)(m:za):Prop:=
 ∀i x,m.methods[i]? =some x→∃am,h.A3=some am∧base≤am.block∧∀k,k<x.code.length→∃ad cap,w.cell? (zc (am.add (i*8)) 4)=some (.slice (some ad) x.code.length cap)∧base≤ad.block∧ad.block≠am.block∧w.frozen? (ad.add (k*3))=false
theorem qY{g n i:Nat}{ad:Addr}(h:ad=⟨g,0,none⟩)(hi:0<i):zc (ad.add n) i=⟨g,n+i,none⟩:=by
 subst h;unfold zc Addr.add;split
 ·rename_i h0;subst h0;rfl
 ·simp
theorem Zw{w:World}{a q:Addr}(h:q.block≠a.block)(v:Value):(w.setCell a v).cell? q=w.cell? q:=World.cell?_of_block (w:=w) (Below.heap_setCell w a v q.block h)
theorem YR{w:World}{N:Nat}{vs:List Value}(h:zT w N vs){a:Addr}(ha:N≠a.block)(v:Value):zT (w.setCell a v) N vs:=fun i u hu=>(Zw (q:=⟨N,i,none⟩) ha v).trans (h i u hu)
theorem vL{ad:Addr}{g n i:Nat}(h:ad=⟨g,0,none⟩):(zc (ad.add n) i).block=g:=by subst h;exact zt _ _
theorem q22{ad:Addr}{g n:Nat}(h:ad=⟨g,0,none⟩):(ad.add n).block=g:=by subst h;exact zt _ _
theorem Vy{g n:Nat}{ad:Addr}(h:ad=⟨g,0,none⟩):ad.add n=⟨g,n+0,none⟩:=by
 subst h;unfold Addr.add;split
 ·rename_i h0;subst h0;rfl
 ·simp
section
variable{α:Type}{At:qI α}{k:Nat}{wa w w1:World}{A:Option Addr}{cap B:Nat}{l:List α}
theorem q2t{n:Nat}{w:World}(h:n<w.heap.size)(a:Addr)(v:Value):n<(w.setCell a v).heap.size:=by simpa using h
theorem q3v(hK:vx At)(h:zd At k (zW (old wa) w) w.heap.size A cap l)(hb:Below w.heap.size w w1):zd At k (zW (old wa) w1) w1.heap.size A cap l:=
 h.hole hK hb.size fun b hb' hs=>⟨hs,hb.block b hb'⟩
theorem Ye(hK:vx At)(h:zd At k (zW (old wa) w) B A cap l)(hb:Below B w w1):zd At k (zW (old wa) w1) B A cap l:=
 h.hole hK (zn _) fun b hb' hs=>⟨hs,hb.block b hb'⟩
theorem q13(hK:vx At)(h:zd At k (zW (old wa) w) B A cap l)(hb:Below w.heap.size w w1)(hB:B≤w.heap.size):zd At k (zW (old wa) w1) B A cap l:=Ye hK h (hb.mono hB)
theorem Yl(hK:vx At)(h:zd At k (zW (old wa) w) B A cap l){a:Addr}(ha:a.block<wa.heap.size)(v:Value):zd At k (zW (old wa) (w.setCell a v)) B A cap l:=
 h.hole hK (zn _) fun b hb hs=>⟨hs,Below.heap_setCell w a v b (by have:=kr.mp hs;omega)⟩
end
abbrev set7(w:World)(N:Nat)(a b c d e f g:Value):World:=((((((w.setCell ⟨N,0,none⟩ a).setCell ⟨N,1,none⟩ b).setCell ⟨N,2,none⟩ c).setCell ⟨N,3,none⟩ d).setCell ⟨N,4,none⟩ e).setCell ⟨N,5,none⟩ f).setCell ⟨N,6,none⟩ g
theorem q1d(w:World)(N:Nat)(a b c d e f g:Value){k:Nat}(h:k≠N):(set7 w N a b c d e f g).heap[k]? =w.heap[k]? :=by
 unfold set7;rw[Below.heap_setCell _ _ _ _ h,Below.heap_setCell _ _ _ _ h,Below.heap_setCell _ _ _ _ h,Below.heap_setCell _ _ _ _ h,Below.heap_setCell _ _ _ _ h,Below.heap_setCell _ _ _ _ h,Below.heap_setCell _ _ _ _ h]
theorem q08{α:Type}{At:qI α}(hK:vx At){k N B:Nat}{wa w:World}{A:Option Addr}{cap:Nat}{l:List α}{a b c d e f g:Value}(h:zd At k (zW (old wa) w) B A cap l)(hN:N<wa.heap.size)(hB:B≤w.heap.size):
  zd At k (set7 w N a b c d e f g) (set7 w N a b c d e f g).heap.size A cap l:=
 zd.of_hole hK (h.hole hK (S':=old wa) (w':=set7 w N a b c d e f g) (by simpa[set7]using hB) fun x hx hs=>⟨hs,q1d _ _ _ _ _ _ _ _ _ (by have:=kr.mp hs;omega)⟩)
theorem q9q{w w':World}{a b c d e f g:Value}(h:Below w.heap.size w w'):Below w.heap.size w (set7 w' (w.heap.size+1) a b c d e f g):=
 ((((((h.setCell (Nat.le_succ _) _).setCell (Nat.le_succ _) _).setCell (Nat.le_succ _) _).setCell (Nat.le_succ _) _).setCell (Nat.le_succ _) _).setCell (Nat.le_succ _) _).setCell (Nat.le_succ _) _
theorem qog{w0 w wa:World}{N lo hi:Nat}{m:za}{A0 A1 A2 A A4:Option Addr}{c0 c1 c2 c c4:Nat}{a b c' d e f g:Value}(h:q0v lo hi w A m.methods)(hN:N<wa.heap.size)(hz:wa.heap.size≤lo)(h0:w0.heap.size≤wa.heap.size):
  qd6 w0.heap.size (set7 w N a b c' d e f g) ⟨A0,A1,A2,A,A4,c0,c1,c2,c,c4⟩ m:=fun i x hx=>by
 obtain⟨am,e1,e2,e3,e4⟩:=h.keep (w':=set7 w N a b c' d e f g) (fun k h1 h2=>q1d _ _ _ _ _ _ _ _ _ (by omega)) i x hx;refine⟨am,e1,by omega,fun k hk=> ?_⟩;obtain⟨ad,cap,g1,g2,g3,g4,g5⟩:=e4 k hk;exact⟨ad,cap,g1,by omega,g4,g5⟩
def qjq(m:za)(w:World)(e:Ending)(w':World):Prop:=
 ∃h zs lo,e= .returned (zr h m)∧zp w' w'.heap.size h m∧Below w.heap.size w w'∧qd6 w.heap.size w' h m∧w.heap.size≤lo∧jD w' lo w.heap.size h m zs
theorem q4l{α:Type}{At:qI α}(hK:vx At){k N B bs:Nat}{wa w:World}{A A3:Option Addr}{cap:Nat}{l:List α}{a b c d e f g:Value}(h:zd At k (zW (old wa) w) B A cap l)(hN:N<wa.heap.size)(hB:B≤w.heap.size)(hA:∀ad,A3=some ad→B≤ad.block)(hbs:bs≤wa.heap.size):
  zd At k (zW (vC bs A3) (set7 w N a b c d e f g)) (set7 w N a b c d e f g).heap.size A cap l:=
 h.hole hK (by simpa[set7]using hB) fun x hx hs=>⟨Vp.mpr ⟨by have:=kr.mp hs;omega,Qi.mpr fun ad ea=>by have:=hA ad ea;omega⟩,q1d _ _ _ _ _ _ _ _ _ (by have:=kr.mp hs;omega)⟩
theorem qkf{α:Type}{At:qI α}(hK:vx At){k N bs:Nat}{wr w:World}{A A3:Option Addr}{cap:Nat}{l:List α}{a b c d e f g:Value}(h:zd At k (zW (old wr) w) w.heap.size A cap l)(hN:N<wr.heap.size)(hA:∀ad,A3=some ad→ad.block<wr.heap.size)(hbs:bs≤wr.heap.size):
  zd At k (zW (vC bs A3) (set7 w N a b c d e f g)) (set7 w N a b c d e f g).heap.size A cap l:=
 h.hole hK (by simp[set7]) fun x hx hs=>⟨Vp.mpr ⟨by have:=kr.mp hs;omega,Qi.mpr fun ad ea=>by have:=hA ad ea;have:=kr.mp hs;omega⟩,q1d _ _ _ _ _ _ _ _ _ (by have:=kr.mp hs;omega)⟩
theorem ku.end7{α:Type}{El:ElP α}{Sh:List Value→α→Prop}{T k base i N:Nat}{v:Value}{l:List α}{w:World}{a b c d e f g:Value}(h:ku El Sh T k base v l i w)(hM:vu El)(hN:N<base):ku El Sh T k base v l i (set7 w N a b c d e f g):=
 (((((((h.other hM (a:=⟨N,0,none⟩) hN a).other hM (a:=⟨N,1,none⟩) hN b).other hM (a:=⟨N,2,none⟩) hN c).other hM (a:=⟨N,3,none⟩) hN d).other hM (a:=⟨N,4,none⟩) hN e).other hM (a:=⟨N,5,none⟩) hN f).other hM (a:=⟨N,6,none⟩) hN g)
set_option maxHeartbeats 25600000 in
theorem qme(m:za)(h:zl)(B:Nat)(w:World)(hB:B≤w.heap.size)(H:zp w B h m)(hs:qcm m):
  Calls Tryz.prog 36 #[zr h m] w (qjq m w):=by
 have hs1:(w.alloc (zq h m)).heap.size=w.heap.size+1:=by simp
 have hs2:((w.alloc (zq h m)).alloc VD).heap.size=w.heap.size+2:=by simp
 have hW1:Below w.heap.size w (w.alloc (zq h m)):=(zb _ _).alloc (zn _) _;have hW2:Below (w.alloc (zq h m)).heap.size (w.alloc (zq h m)) ((w.alloc (zq h m)).alloc VD):=(zb _ _).alloc (zn _) _;have HX0:=zH (hW1.trans (hW2.mono hW1.size));have HK0:Hid (((w.alloc (zq h m)).alloc VD).heap[w.heap.size]? =some (.cells [.slice h.A0 m.classes.length h.c0,.slice h.A1 m.statics.length h.c1,.slice h.A2 m.ints.length h.c2,.slice h.A3 m.methods.length h.c3,.slice h.A4 m.entries.length h.c4,.int .i64 m.stack,.int .i64 m.heap].toArray 28 (0,0))):=zH ((hW2.block _ (by omega)).trans (heap_alloc_new _ _));have hk:=heap_alloc_new (w.alloc (zq h m)) VD;rw[hs1]at hk;have HJ0:Hid (((w.alloc (zq h m)).alloc VD).heap[w.heap.size+1]? =some (.cells img0L.toArray 28 (0,0))):=zH hk;have HZ0:=zH hs2;have HS0:=zH H.classes;have HS1:=zH H.statics;have HS2:=zH H.ints;have HS3:=zH H.methods;have HS4:=zH H.entries;have HB:=zH hB;have Z0:=zH hs.classes;have Z1:=zH hs.statics;have Z2:=zH hs.ints;have Z3:=zH hs.methods;have Z4:=zH hs.entries;have ZC:=zH hs.ct;have ZM:=zH hs.mt;have hc0:=H.classes.le;have hc0':=H.classes.cap;have hc3:=H.methods.le;have hc3':=H.methods.cap;clear hs1 hs2 hW1 hW2 hk H hB hs;go_enter Tryz.func36,Tryz.ntmps36;go_upto_region 1 with fail
 generalize(w.alloc (zq h m)).alloc VD=wa at*
 have hN1:w.heap.size<wa.heap.size:=by have:=HZ0.out;omega
 have hN2:w.heap.size+1<wa.heap.size:=by have:=HZ0.out;omega
 have q0:=jh HK0.out 0 _ rfl;go_upto_region 2 with(go_at_call 62;(with_reducible refine(qel HS0 HB HX0 Z0).mono ?_);rintro e w1 ⟨A0,c0,rfl,hst,hb⟩;have hk:=(hb.block _ hN1).trans HK0.out;have hj:=(hb.block _ hN2).trans HJ0.out;have q0:=jh hk 0 _ rfl;have f0:=ZJ hk 0;have HK1:=zH (q21 (i:=0) hk (.slice A0 m.classes.length c0));have HJ1:=zH (q1a hj (a:=⟨w.heap.size,0,none⟩) (by show w.heap.size+1≠w.heap.size;omega) (.slice A0 m.classes.length c0));have HC1:=zH (hst.other kT.mono (a:=⟨w.heap.size,0,none⟩) hN1 (.slice A0 m.classes.length c0));have HZW:Hid (wa.heap.size≤(w1.setCell ⟨w.heap.size,0,none⟩ (.slice A0 m.classes.length c0)).heap.size):=zH (by simpa using hb.size);have HX1:=zH ((HX0.out.trans (hb.mono HX0.out.size)).setCell (p:=⟨w.heap.size,0,none⟩) (zn _) (.slice A0 m.classes.length c0));clear hst hb hk hj)
 generalize w1.setCell ⟨w.heap.size,0,none⟩ (.slice A0 m.classes.length c0)=W1 at*
 have q0:=jh HK1.out 0 _ rfl;go_wp2_with fail
 go_loopw [14] (fun i wr=>∃j:Nat,j≤m.classes.length∧i= .int .i64 j∧Hid (ku kT (q0u w B) 90 3 wa.heap.size (.slice A0 m.classes.length c0) m.classes j wr)∧Hid (Below wa.heap.size W1 wr)) (fun i _=>m.classes.length - (intOf i).toNat)
 case atStart=>exact⟨0,by omega,rfl,HC1,zH (zb _ _)⟩
 case round=>
  obtain⟨j,hj,rfl,HC,HX⟩:=hrel;by_cases hlt:j<m.classes.length
  ·obtain⟨cs,hcl,hsh,hmid⟩:=HC.out.opened hlt;have HXL:Hid (m.classes[j]? =some m.classes[j]):=zH (List.getElem?_eq_getElem hlt);have ZX:=zH (ZC.out _ (List.getElem_mem hlt));generalize m.classes[j]=x at*
   obtain⟨A1,k1,A2,k2,rfl,hs1,hs2,hrg⟩:=hsh;have HF:=zH hs1;have HS:=zH hs2;have HRG:=zH hrg;have HF1:=zH ZX.out.1;have HF2:=zH ZX.out.2;clear hs1 hs2 hrg;obtain⟨g,c,hv⟩:=hmid.slice;obtain⟨ad,had⟩:∃ad:Addr,ad=⟨g,0,none⟩:=⟨_,rfl⟩
   injection hv with e1 e2 e3;rw[←had]at e1;subst e1 e3;have HAD:=zH had;rw[had]at hmid;obtain⟨hbg,hgl,hfr,hcell⟩:=hmid.cell;have s0:wr.cell? (ad.add (j*3))=some (.int .i64 x.sup):=by rw[Vy had];exact hcell 0 _ rfl
   have s1:wr.cell? (zc (ad.add (j*3)) 1)=some (.slice A1 x.fields.length k1):=by rw[qY had (by decide)];exact hcell 1 _ rfl
   have s2:wr.cell? (zc (ad.add (j*3)) 2)=some (.slice A2 x.slots.length k2):=by rw[qY had (by decide)];exact hcell 2 _ rfl
   have hA:Below wr.heap.size wr (wr.alloc (.cells #[.int .i64 x.sup,.slice A1 x.fields.length k1,.slice A2 x.slots.length k2] 90)):=(zb _ _).alloc (zn _) _;have HMid:=zH (hmid.keep kT.mono hA);have HLoW:=zH (Nat.le_trans HZW.out HX.out.size);have HXv:=zH (HX.out.trans (hA.mono HLoW.out));have HBC:=zH (qd wr [.int .i64 x.sup,.slice A1 x.fields.length k1,.slice A2 x.slots.length k2] 90);have HZ2:Hid (wr.heap.size<(wr.alloc (.cells #[.int .i64 x.sup,.slice A1 x.fields.length k1,.slice A2 x.slots.length k2] 90)).heap.size):=zH (by simp);have HGl:=zH (Nat.lt_trans hgl HZ2.out);have HBg:=zH hbg;have HNg:Hid (g≠w.heap.size):=zH (by have:=hbg;have:=hN1;omega);have HNr:Hid (wr.heap.size≠g):=zH (by omega);clear had hmid hfr hcell hA hcl hgl hbg e2 HX HC;go_upto_region 5 with fail
   generalize wr.alloc (.cells #[.int .i64 x.sup,.slice A1 x.fields.length k1,.slice A2 x.slots.length k2] 90)=V0 at*
   have HLoV:=zH (Nat.le_trans HZW.out HXv.out.size);have hKv:=(HXv.out.block _ hN1).trans HK1.out;have q0:V0.drew.cell? ⟨w.heap.size,0,none⟩=_:=jh hKv 0 _ rfl;have r1:V0.drew.cell? ⟨wr.heap.size,1,none⟩=_:=HBC.out 1 _ rfl;clear hKv;have HXw:Hid (Below w.heap.size w V0.drew):=zH ((HX1.out.trans (HXv.out.mono (Nat.le_of_lt hN1))).drew);have HN12:Hid (w.heap.size<V0.heap.size):=zH (by have:=HLoV.out;have:=hN1;omega);go_region_held3 (fun w'=>w'.cell? ⟨w.heap.size,0,none⟩=some (.slice (some ad) m.classes.length c0)∧w'.cell? ⟨wr.heap.size,1,none⟩=some (.slice A1 x.fields.length k1))
    (first|go_keep|exact⟨q0,r1⟩|exact⟨(Zw (by rw[vL HAD.out];exact HNg.out.symm) _).trans q0,(Zw (by rw[vL HAD.out];exact HNr.out) _).trans r1⟩)
    (first|(go_at_call 63;(with_reducible refine(q1k HF HB HXw HF1).mono ?_);rintro e u0w ⟨A1n,c1n,rfl,hsl,hfr,hb⟩;have hb':Below V0.heap.size V0 u0w:=((zb V0.heap.size V0).drew).trans hb;have hm:=HMid.out.keep kT.mono hb';have f1:u0w.frozen? (zc (ad.add (j*3)) 1)=false:=(by rw[qY HAD.out (by decide)];exact hm.cell.2.2.1 _);have s1:u0w.cell? (zc (ad.add (j*3)) 1)=some (.slice A1 x.fields.length k1):=(by rw[qY HAD.out (by decide)];exact hm.cell.2.2.2 1 _ rfl);have HMid3:=zH hm;have HB3:=zH hb';have HN0:=zH (Vx (base:=wa.heap.size) (g:=g) (n:=m.classes.length) (c:=c0) (ElS.mono zi.mono) (q0k hsl) HLoV.out HGl.out);have q0:=(hb.cell (p:=⟨w.heap.size,0,none⟩) HN12.out).trans q0;have r1:=(hb.cell (p:=⟨wr.heap.size,1,none⟩) HZ2.out).trans r1;clear hsl hfr hb hb' hm))
   have hm':=HMid3.out.turn kT.mono (r:=1) (by decide) (.slice A1n x.fields.length c1n);rw[←qY HAD.out (by decide)]at hm';have HMid:=zH hm';have HXv:=zH ((HXv.out.trans (HB3.out.mono HLoV.out)).setCell (p:=zc (ad.add (j*3)) 1) (by rw[vL HAD.out];exact HBg.out) (.slice A1n x.fields.length c1n));have HBC:=zH (YR (HBC.out.keep HB3.out HZ2.out) (a:=zc (ad.add (j*3)) 1) (by rw[vL HAD.out];exact HNr.out) (.slice A1n x.fields.length c1n));have HZ2:Hid (wr.heap.size<(u0w.setCell (zc (ad.add (j*3)) 1) (.slice A1n x.fields.length c1n)).heap.size):=zH (by simpa using Nat.lt_of_lt_of_le HZ2.out HB3.out.size);have HGl:Hid (g<(u0w.setCell (zc (ad.add (j*3)) 1) (.slice A1n x.fields.length c1n)).heap.size):=zH (by simpa using Nat.lt_of_lt_of_le HGl.out HB3.out.size);have HLoV:=zH (Nat.le_trans HZW.out HXv.out.size);have hn:=Zu (ElS.mono zi.mono) HN0.out (j*3+1) (.slice A1n x.fields.length c1n);rw[←qY HAD.out (by decide)]at hn;have HN0:=zH hn;clear hm' hn HMid3 HB3 q0 r1 s1 f1;go_upto_region 6 with fail
   generalize u0w.setCell (zc (ad.add (j*3)) 1) (.slice A1n x.fields.length c1n)=V1 at*
   have hKv:=(HXv.out.block _ hN1).trans HK1.out;have q0:V1.drew.cell? ⟨w.heap.size,0,none⟩=_:=jh hKv 0 _ rfl;have r1:V1.drew.cell? ⟨wr.heap.size,2,none⟩=_:=HBC.out 2 _ rfl;clear hKv;have HXw:Hid (Below w.heap.size w V1.drew):=zH ((HX1.out.trans (HXv.out.mono (Nat.le_of_lt hN1))).drew);have HN12:Hid (w.heap.size<V1.heap.size):=zH (by have:=HLoV.out;have:=hN1;omega);go_region_held3 (fun w'=>w'.cell? ⟨w.heap.size,0,none⟩=some (.slice (some ad) m.classes.length c0)∧w'.cell? ⟨wr.heap.size,2,none⟩=some (.slice A2 x.slots.length k2))
    (first|go_keep|exact⟨q0,r1⟩|exact⟨(Zw (by rw[vL HAD.out];exact HNg.out.symm) _).trans q0,(Zw (by rw[vL HAD.out];exact HNr.out) _).trans r1⟩)
    (first|(go_at_call 64;(with_reducible refine(q58 HS HB HXw HF2).mono ?_);rintro e u1w ⟨A2n,c2n,rfl,hsl,hfr,hb⟩;have hb':Below V1.heap.size V1 u1w:=((zb V1.heap.size V1).drew).trans hb;have hm:=HMid.out.keep kT.mono hb';have f1:u1w.frozen? (zc (ad.add (j*3)) 2)=false:=(by rw[qY HAD.out (by decide)];exact hm.cell.2.2.1 _);have s1:u1w.cell? (zc (ad.add (j*3)) 2)=some (.slice A2 x.slots.length k2):=(by rw[qY HAD.out (by decide)];exact hm.cell.2.2.2 2 _ rfl);have HMid3:=zH hm;have HB3:=zH hb';have HN1:=zH (Vx (base:=wa.heap.size) (g:=g) (n:=m.classes.length) (c:=c0) (ElS.mono zo.mono) (q0k hsl) HLoV.out HGl.out);have q0:=(hb.cell (p:=⟨w.heap.size,0,none⟩) HN12.out).trans q0;have r1:=(hb.cell (p:=⟨wr.heap.size,2,none⟩) HZ2.out).trans r1;clear hsl hfr hb hb' hm))
   have hm':=HMid3.out.turn kT.mono (r:=2) (by decide) (.slice A2n x.slots.length c2n);rw[←qY HAD.out (by decide)]at hm';have HMid:=zH hm';have HXv:=zH ((HXv.out.trans (HB3.out.mono HLoV.out)).setCell (p:=zc (ad.add (j*3)) 2) (by rw[vL HAD.out];exact HBg.out) (.slice A2n x.slots.length c2n));have HBC:=zH (YR (HBC.out.keep HB3.out HZ2.out) (a:=zc (ad.add (j*3)) 2) (by rw[vL HAD.out];exact HNr.out) (.slice A2n x.slots.length c2n));have HZ2:Hid (wr.heap.size<(u1w.setCell (zc (ad.add (j*3)) 2) (.slice A2n x.slots.length c2n)).heap.size):=zH (by simpa using Nat.lt_of_lt_of_le HZ2.out HB3.out.size);have HGl:Hid (g<(u1w.setCell (zc (ad.add (j*3)) 2) (.slice A2n x.slots.length c2n)).heap.size):=zH (by simpa using Nat.lt_of_lt_of_le HGl.out HB3.out.size);have HLoV:=zH (Nat.le_trans HZW.out HXv.out.size);have hn:=Zu (ElS.mono zo.mono) HN1.out (j*3+2) (.slice A2n x.slots.length c2n);rw[←qY HAD.out (by decide)]at hn;have HN1:=zH hn;have hn2:=Zu (ElS.mono zi.mono) (Yr (ElS.mono zi.mono) HN0.out HB3.out) (j*3+2) (.slice A2n x.slots.length c2n);rw[←qY HAD.out (by decide)]at hn2;have HN0:=zH hn2;clear hn2;clear hm' hn HMid3 HB3 q0 r1 s1 f1;have hcl':=HMid.out.closed (fun y hy=>by
    rw[HXL.out]at hy;injection hy with hy;subst hy;exact⟨A1n,c1n,A2n,c2n,rfl,HN0.out,HN1.out,HRG.out⟩)
   rw[←HAD.out]at hcl';have HCn:=zH hcl';clear hcl';go_wp2_with fail
   go_roundw;case rel=>exact⟨j+1,by omega,by go_num,HCn,HXv⟩
   case measure=>simp[intOf];omega
  ·obtain⟨A,c,hv,hsl⟩:=(HC.out.done (by omega)).slice kT.at_ kT.mono (by decide);injection hv with e1 e2 e3;subst e1 e3;have HT0:Hid (zd jc 3 (zW (old wa) wr) wr.heap.size A0 c0 m.classes):=zH hsl;have HKe:=zH ((HX.out.block _ hN1).trans HK1.out);have HJe:=zH ((HX.out.block _ hN2).trans HJ1.out);have HNK:=zH (lt_of_block HKe.out);have HNJ:=zH (lt_of_block HJe.out);have HXe:=zH (HX1.out.trans (HX.out.mono (Nat.le_of_lt hN1)));have HLo:=zH (Nat.le_trans HZW.out HX.out.size);have q1:=jh HKe.out 1 _ rfl;clear hsl e2 HX HC;go_upto_region 10 with(first
    |(go_at_call 63;(with_reducible refine(q1k HS1 HB HXe Z1).mono ?_);rintro e w5 ⟨A1,c1,rfl,hsl,hfr,hb⟩;have hk:=(hb.block _ HNK.out).trans HKe.out;have hj:=(hb.block _ HNJ.out).trans HJe.out;have q1:=jh hk 1 _ rfl;have f1:=ZJ hk 1;have q2:=jh hk 2 _ rfl;have HK5:=zH (q21 (i:=1) hk (.slice A1 m.statics.length c1));have HJ5:=zH (q1a hj (a:=⟨w.heap.size,1,none⟩) (by show w.heap.size+1≠w.heap.size;omega) (.slice A1 m.statics.length c1));have HX5:=zH ((HXe.out.trans (hb.mono HXe.out.size)).setCell (p:=⟨w.heap.size,1,none⟩) (zn _) (.slice A1 m.statics.length c1));have HNK:=zH (q2t (Nat.lt_of_lt_of_le HNK.out hb.size) ⟨w.heap.size,1,none⟩ (.slice A1 m.statics.length c1));have HNJ:=zH (q2t (Nat.lt_of_lt_of_le HNJ.out hb.size) ⟨w.heap.size,1,none⟩ (.slice A1 m.statics.length c1));have HT1:=zH (Yt zi.mono (q4k zi.mono hsl HLo.out) (a:=⟨w.heap.size,1,none⟩) hN1 (.slice A1 m.statics.length c1));have HT0:=zH (Yt jc.mono (q3v jc.mono HT0.out hb) (a:=⟨w.heap.size,1,none⟩) hN1 (.slice A1 m.statics.length c1));have HLo:=zH (q2u (Nat.le_trans HLo.out hb.size) ⟨w.heap.size,1,none⟩ (.slice A1 m.statics.length c1));clear hk hj hsl hfr hb)
    |(go_at_call 65;(with_reducible refine(qiz HS2 HB HX5 Z2).mono ?_);rintro e w6 ⟨A2,c2,rfl,hsl,hfr,hb⟩;have hk:=(hb.block _ HNK.out).trans HK5.out;have hj:=(hb.block _ HNJ.out).trans HJ5.out;have q2:=jh hk 2 _ rfl;have f2:=ZJ hk 2;have q3:=jh hk 3 _ rfl;have HK6:=zH (q21 (i:=2) hk (.slice A2 m.ints.length c2));have HJ6:=zH (q1a hj (a:=⟨w.heap.size,2,none⟩) (by show w.heap.size+1≠w.heap.size;omega) (.slice A2 m.ints.length c2));have HX6:=zH ((HX5.out.trans (hb.mono HX5.out.size)).setCell (p:=⟨w.heap.size,2,none⟩) (zn _) (.slice A2 m.ints.length c2));have HNK:=zH (q2t (Nat.lt_of_lt_of_le HNK.out hb.size) ⟨w.heap.size,2,none⟩ (.slice A2 m.ints.length c2));have HNJ:=zH (q2t (Nat.lt_of_lt_of_le HNJ.out hb.size) ⟨w.heap.size,2,none⟩ (.slice A2 m.ints.length c2));have HT2:=zH (Yt jo.mono (q4k jo.mono hsl HLo.out) (a:=⟨w.heap.size,2,none⟩) hN1 (.slice A2 m.ints.length c2));have HT0:=zH (Yt jc.mono (q3v jc.mono HT0.out hb) (a:=⟨w.heap.size,2,none⟩) hN1 (.slice A2 m.ints.length c2));have HT1:=zH (Yt zi.mono (q3v zi.mono HT1.out hb) (a:=⟨w.heap.size,2,none⟩) hN1 (.slice A2 m.ints.length c2));have HLo:=zH (q2u (Nat.le_trans HLo.out hb.size) ⟨w.heap.size,2,none⟩ (.slice A2 m.ints.length c2));clear hk hj hsl hfr hb))
   generalize w6.setCell ⟨w.heap.size,2,none⟩ (.slice A2 m.ints.length c2)=W6 at*
   have HZ6:=HLo;have hN1b:w.heap.size<W6.heap.size:=Nat.lt_of_lt_of_le hN1 HZ6.out;have q3:=jh HK6.out 3 _ rfl;go_upto_region 11 with(go_at_call 66;(with_reducible refine(qek HS3 HB HX6 Z3).mono ?_);rintro e w7 ⟨A3,c3,rfl,hst,hb⟩;have hk:=(hb.block _ HNK.out).trans HK6.out;have hj:=(hb.block _ HNJ.out).trans HJ6.out;have q3:=jh hk 3 _ rfl;have f3:=ZJ hk 3;have HK7:=zH (q21 (i:=3) hk (.slice A3 m.methods.length c3));have HJ7:=zH (q1a hj (a:=⟨w.heap.size,3,none⟩) (by show w.heap.size+1≠w.heap.size;omega) (.slice A3 m.methods.length c3));have HX7:=zH ((HX6.out.trans (hb.mono HX6.out.size)).setCell (p:=⟨w.heap.size,3,none⟩) (zn _) (.slice A3 m.methods.length c3));have HC7:=zH (hst.other jK.mono (a:=⟨w.heap.size,3,none⟩) (Nat.lt_of_lt_of_le hN1 HZ6.out) (.slice A3 m.methods.length c3));have HZW7:=zH (q2u hb.size ⟨w.heap.size,3,none⟩ (.slice A3 m.methods.length c3));have HT0:=zH (Yl jc.mono (Ye jc.mono HT0.out hb) (a:=⟨w.heap.size,3,none⟩) hN1 (.slice A3 m.methods.length c3));have HT1:=zH (Yl zi.mono (Ye zi.mono HT1.out hb) (a:=⟨w.heap.size,3,none⟩) hN1 (.slice A3 m.methods.length c3));have HT2:=zH (Yl jo.mono (Ye jo.mono HT2.out hb) (a:=⟨w.heap.size,3,none⟩) hN1 (.slice A3 m.methods.length c3));clear hk hj hst hb)
   generalize w7.setCell ⟨w.heap.size,3,none⟩ (.slice A3 m.methods.length c3)=W7 at*
   have q3:=jh HK7.out 3 _ rfl;go_wp2_with fail
   go_loopw [51] (fun i wr=>∃j:Nat,j≤m.methods.length∧i= .int .i64 j∧Hid (ku jK (q0t w B) 42 8 W6.heap.size (.slice A3 m.methods.length c3) m.methods j wr)∧Hid (Below W6.heap.size W7 wr)) (fun i _=>m.methods.length - (intOf i).toNat)
   case atStart=>exact⟨0,by omega,rfl,HC7,zH (zb _ _)⟩
   case round=>
    obtain⟨j,hj,rfl,HC,HX⟩:=hrel;by_cases hlt:j<m.methods.length
    ·obtain⟨cs,hcl,hsh,hmid⟩:=HC.out.opened hlt;have HXL:Hid (m.methods[j]? =some m.methods[j]):=zH (List.getElem?_eq_getElem hlt);have ZX:=zH (ZM.out _ (List.getElem_mem hlt));generalize m.methods[j]=x at*
     obtain⟨B0,k0,B1,k1,B4,k4,B7,k7,rfl,hs0,hs1,hs4,hs7⟩:=hsh;have HQ0:=zH hs0;have HQ1:=zH hs1;have HQ4:=zH hs4;have HQ7:=zH hs7;have HF0:=zH ZX.out.1;have HF1:=zH ZX.out.2.1;have HF4:=zH ZX.out.2.2.1;have HF7:=zH ZX.out.2.2.2;clear hs0 hs1 hs4 hs7;obtain⟨g,c,hv⟩:=hmid.slice;obtain⟨ad,had⟩:∃ad:Addr,ad=⟨g,0,none⟩:=⟨_,rfl⟩
     injection hv with e1 e2 e3;rw[←had]at e1;subst e1 e3;have HAD:=zH had;rw[had]at hmid;obtain⟨hbg,hgl,hfr,hcell⟩:=hmid.cell;have s0:wr.cell? (ad.add (j*8))=some (.slice B0 x.args.length k0):=by rw[Vy had];exact hcell 0 _ rfl
     have s1:wr.cell? (zc (ad.add (j*8)) 1)=some (.slice B1 x.locals.length k1):=by rw[qY had (by decide)];exact hcell 1 _ rfl
     have s2:wr.cell? (zc (ad.add (j*8)) 2)=some (.int .i64 x.ret.1):=by rw[qY had (by decide)];exact hcell 2 _ rfl
     have s3:wr.cell? (zc (ad.add (j*8)) 3)=some (.int .i64 x.ret.2):=by rw[qY had (by decide)];exact hcell 3 _ rfl
     have s4:wr.cell? (zc (ad.add (j*8)) 4)=some (.slice B4 x.code.length k4):=by rw[qY had (by decide)];exact hcell 4 _ rfl
     have s5:wr.cell? (zc (ad.add (j*8)) 5)=some (.int .i64 x.depth):=by rw[qY had (by decide)];exact hcell 5 _ rfl
     have s6:wr.cell? (zc (ad.add (j*8)) 6)=some (.int .i64 x.pot):=by rw[qY had (by decide)];exact hcell 6 _ rfl
     have s7:wr.cell? (zc (ad.add (j*8)) 7)=some (.slice B7 x.phi.length k7):=by rw[qY had (by decide)];exact hcell 7 _ rfl
     have hA:Below wr.heap.size wr (wr.alloc (.cells #[.slice B0 x.args.length k0,.slice B1 x.locals.length k1,.int .i64 x.ret.1,.int .i64 x.ret.2,.slice B4 x.code.length k4,.int .i64 x.depth,.int .i64 x.pot,.slice B7 x.phi.length k7] 42)):=(zb _ _).alloc (zn _) _;have HMid:=zH (hmid.keep jK.mono hA);have HLoW:=zH (Nat.le_trans HZW7.out HX.out.size);have HXv:=zH (HX.out.trans (hA.mono HLoW.out));have HBC:=zH (qd wr [.slice B0 x.args.length k0,.slice B1 x.locals.length k1,.int .i64 x.ret.1,.int .i64 x.ret.2,.slice B4 x.code.length k4,.int .i64 x.depth,.int .i64 x.pot,.slice B7 x.phi.length k7] 42);have HZ2:Hid (wr.heap.size<(wr.alloc (.cells #[.slice B0 x.args.length k0,.slice B1 x.locals.length k1,.int .i64 x.ret.1,.int .i64 x.ret.2,.slice B4 x.code.length k4,.int .i64 x.depth,.int .i64 x.pot,.slice B7 x.phi.length k7] 42)).heap.size):=zH (by simp);have HGl:=zH (Nat.lt_trans hgl HZ2.out);have HBg:=zH hbg;have HNg:Hid (g≠w.heap.size):=zH (by have:=hbg;have:=hN1b;omega);have HNr:Hid (wr.heap.size≠g):=zH (by omega);clear had hmid hfr hcell hA hcl hgl hbg e2 HX HC;go_upto_region 14 with fail
     generalize wr.alloc (.cells #[.slice B0 x.args.length k0,.slice B1 x.locals.length k1,.int .i64 x.ret.1,.int .i64 x.ret.2,.slice B4 x.code.length k4,.int .i64 x.depth,.int .i64 x.pot,.slice B7 x.phi.length k7] 42)=V0 at*
     have HLoV:=zH (Nat.le_trans HZW7.out HXv.out.size);have hKv:=(HXv.out.block _ hN1b).trans HK7.out;have q0:V0.drew.cell? ⟨w.heap.size,3,none⟩=_:=jh hKv 3 _ rfl;have r1:V0.drew.cell? ⟨wr.heap.size,0,none⟩=_:=HBC.out 0 _ rfl;clear hKv;have HXw:Hid (Below w.heap.size w V0.drew):=zH ((HX7.out.trans (HXv.out.mono (Nat.le_of_lt hN1b))).drew);have HN12:Hid (w.heap.size<V0.heap.size):=zH (by have:=HLoV.out;have:=hN1b;omega);go_region_held3 (fun w'=>w'.cell? ⟨w.heap.size,3,none⟩=some (.slice (some ad) m.methods.length c3)∧w'.cell? ⟨wr.heap.size,0,none⟩=some (.slice B0 x.args.length k0))
      (first|go_keep|exact⟨q0,r1⟩|exact⟨(Zw (by rw[q22 HAD.out];exact HNg.out.symm) _).trans q0,(Zw (by rw[q22 HAD.out];exact HNr.out) _).trans r1⟩)
      (first|(go_at_call 63;(with_reducible refine(q1k HQ0 HB HXw HF0).mono ?_);rintro e u0w ⟨B0n,c0n,rfl,hsl,hfr,hb⟩;have hb':Below V0.heap.size V0 u0w:=((zb V0.heap.size V0).drew).trans hb;have hm:=HMid.out.keep jK.mono hb';have f1:u0w.frozen? (ad.add (j*8))=false:=(by rw[Vy (n:=j*8) HAD.out];exact hm.cell.2.2.1 _);have s1:u0w.cell? (ad.add (j*8))=some (.slice B0 x.args.length k0):=(by rw[Vy (n:=j*8) HAD.out];exact hm.cell.2.2.2 0 _ rfl);have HMid3:=zH hm;have HB3:=zH hb';have HN0:=zH (Vx (base:=W6.heap.size) (g:=g) (n:=m.methods.length) (c:=c3) (ElS.mono zi.mono) (q0k hsl) HLoV.out HGl.out);have q0:=(hb.cell (p:=⟨w.heap.size,3,none⟩) HN12.out).trans q0;have r1:=(hb.cell (p:=⟨wr.heap.size,0,none⟩) HZ2.out).trans r1;clear hsl hfr hb hb' hm))
     have hm':=HMid3.out.turn jK.mono (r:=0) (by decide) (.slice B0n x.args.length c0n);rw[←Vy (n:=j*8) HAD.out]at hm';have HMid:=zH hm';have HXv:=zH ((HXv.out.trans (HB3.out.mono HLoV.out)).setCell (p:=ad.add (j*8)) (by rw[q22 HAD.out];exact HBg.out) (.slice B0n x.args.length c0n));have HBC:=zH (YR (HBC.out.keep HB3.out HZ2.out) (a:=ad.add (j*8)) (by rw[q22 HAD.out];exact HNr.out) (.slice B0n x.args.length c0n));have HZ2:Hid (wr.heap.size<(u0w.setCell (ad.add (j*8)) (.slice B0n x.args.length c0n)).heap.size):=zH (by simpa using Nat.lt_of_lt_of_le HZ2.out HB3.out.size);have HGl:Hid (g<(u0w.setCell (ad.add (j*8)) (.slice B0n x.args.length c0n)).heap.size):=zH (by simpa using Nat.lt_of_lt_of_le HGl.out HB3.out.size);have HLoV:=zH (Nat.le_trans HZW7.out HXv.out.size);have hn:=Zu (ElS.mono zi.mono) HN0.out (j*8+0) (.slice B0n x.args.length c0n);rw[←Vy (n:=j*8) HAD.out]at hn;have HN0:=zH hn;clear hm' hn HMid3 HB3 q0 r1 s1 f1;go_upto_region 15 with fail
     generalize u0w.setCell (ad.add (j*8)) (.slice B0n x.args.length c0n)=V1 at*
     have hKv:=(HXv.out.block _ hN1b).trans HK7.out;have q0:V1.drew.cell? ⟨w.heap.size,3,none⟩=_:=jh hKv 3 _ rfl;have r1:V1.drew.cell? ⟨wr.heap.size,1,none⟩=_:=HBC.out 1 _ rfl;clear hKv;have HXw:Hid (Below w.heap.size w V1.drew):=zH ((HX7.out.trans (HXv.out.mono (Nat.le_of_lt hN1b))).drew);have HN12:Hid (w.heap.size<V1.heap.size):=zH (by have:=HLoV.out;have:=hN1b;omega);go_region_held3 (fun w'=>w'.cell? ⟨w.heap.size,3,none⟩=some (.slice (some ad) m.methods.length c3)∧w'.cell? ⟨wr.heap.size,1,none⟩=some (.slice B1 x.locals.length k1))
      (first|go_keep|exact⟨q0,r1⟩|exact⟨(Zw (by rw[vL HAD.out];exact HNg.out.symm) _).trans q0,(Zw (by rw[vL HAD.out];exact HNr.out) _).trans r1⟩)
      (first|(go_at_call 63;(with_reducible refine(q1k HQ1 HB HXw HF1).mono ?_);rintro e u1w ⟨B1n,c1n,rfl,hsl,hfr,hb⟩;have hb':Below V1.heap.size V1 u1w:=((zb V1.heap.size V1).drew).trans hb;have hm:=HMid.out.keep jK.mono hb';have f1:u1w.frozen? (zc (ad.add (j*8)) 1)=false:=(by rw[qY HAD.out (by decide)];exact hm.cell.2.2.1 _);have s1:u1w.cell? (zc (ad.add (j*8)) 1)=some (.slice B1 x.locals.length k1):=(by rw[qY HAD.out (by decide)];exact hm.cell.2.2.2 1 _ rfl);have HMid3:=zH hm;have HB3:=zH hb';have HN1:=zH (Vx (base:=W6.heap.size) (g:=g) (n:=m.methods.length) (c:=c3) (ElS.mono zi.mono) (q0k hsl) HLoV.out HGl.out);have q0:=(hb.cell (p:=⟨w.heap.size,3,none⟩) HN12.out).trans q0;have r1:=(hb.cell (p:=⟨wr.heap.size,1,none⟩) HZ2.out).trans r1;clear hsl hfr hb hb' hm))
     have hm':=HMid3.out.turn jK.mono (r:=1) (by decide) (.slice B1n x.locals.length c1n);rw[←qY HAD.out (by decide)]at hm';have HMid:=zH hm';have HXv:=zH ((HXv.out.trans (HB3.out.mono HLoV.out)).setCell (p:=zc (ad.add (j*8)) 1) (by rw[vL HAD.out];exact HBg.out) (.slice B1n x.locals.length c1n));have HBC:=zH (YR (HBC.out.keep HB3.out HZ2.out) (a:=zc (ad.add (j*8)) 1) (by rw[vL HAD.out];exact HNr.out) (.slice B1n x.locals.length c1n));have HZ2:Hid (wr.heap.size<(u1w.setCell (zc (ad.add (j*8)) 1) (.slice B1n x.locals.length c1n)).heap.size):=zH (by simpa using Nat.lt_of_lt_of_le HZ2.out HB3.out.size);have HGl:Hid (g<(u1w.setCell (zc (ad.add (j*8)) 1) (.slice B1n x.locals.length c1n)).heap.size):=zH (by simpa using Nat.lt_of_lt_of_le HGl.out HB3.out.size);have HLoV:=zH (Nat.le_trans HZW7.out HXv.out.size);have hn:=Zu (ElS.mono zi.mono) HN1.out (j*8+1) (.slice B1n x.locals.length c1n);rw[←qY HAD.out (by decide)]at hn;have HN1:=zH hn;have hn2:=Zu (ElS.mono zi.mono) (Yr (ElS.mono zi.mono) HN0.out HB3.out) (j*8+1) (.slice B1n x.locals.length c1n);rw[←qY HAD.out (by decide)]at hn2;have HN0:=zH hn2;clear hn2;clear hm' hn HMid3 HB3 q0 r1 s1 f1;go_upto_region 16 with fail
     generalize u1w.setCell (zc (ad.add (j*8)) 1) (.slice B1n x.locals.length c1n)=V2 at*
     have hKv:=(HXv.out.block _ hN1b).trans HK7.out;have q0:V2.drew.cell? ⟨w.heap.size,3,none⟩=_:=jh hKv 3 _ rfl;have r1:V2.drew.cell? ⟨wr.heap.size,4,none⟩=_:=HBC.out 4 _ rfl;clear hKv;have HXw:Hid (Below w.heap.size w V2.drew):=zH ((HX7.out.trans (HXv.out.mono (Nat.le_of_lt hN1b))).drew);have HN12:Hid (w.heap.size<V2.heap.size):=zH (by have:=HLoV.out;have:=hN1b;omega);go_region_held3 (fun w'=>w'.cell? ⟨w.heap.size,3,none⟩=some (.slice (some ad) m.methods.length c3)∧w'.cell? ⟨wr.heap.size,4,none⟩=some (.slice B4 x.code.length k4))
      (first|go_keep|exact⟨q0,r1⟩|exact⟨(Zw (by rw[vL HAD.out];exact HNg.out.symm) _).trans q0,(Zw (by rw[vL HAD.out];exact HNr.out) _).trans r1⟩)
      (first|(go_at_call 67;(with_reducible refine(qn4 HQ4 HB HXw HF4).mono ?_);rintro e u2w ⟨B4n,c4n,rfl,hsl,hfr,hb⟩;have hb':Below V2.heap.size V2 u2w:=((zb V2.heap.size V2).drew).trans hb;have hm:=HMid.out.keep jK.mono hb';have f1:u2w.frozen? (zc (ad.add (j*8)) 4)=false:=(by rw[qY HAD.out (by decide)];exact hm.cell.2.2.1 _);have s1:u2w.cell? (zc (ad.add (j*8)) 4)=some (.slice B4 x.code.length k4):=(by rw[qY HAD.out (by decide)];exact hm.cell.2.2.2 4 _ rfl);have HMid3:=zH hm;have HB3:=zH hb';have HN2:=zH (Vx (base:=W6.heap.size) (g:=g) (n:=m.methods.length) (c:=c3) ElF.mono (elF_of hsl hfr) HLoV.out HGl.out);have q0:=(hb.cell (p:=⟨w.heap.size,3,none⟩) HN12.out).trans q0;have r1:=(hb.cell (p:=⟨wr.heap.size,4,none⟩) HZ2.out).trans r1;clear hsl hfr hb hb' hm))
     have hm':=HMid3.out.turn jK.mono (r:=4) (by decide) (.slice B4n x.code.length c4n);rw[←qY HAD.out (by decide)]at hm';have HMid:=zH hm';have HXv:=zH ((HXv.out.trans (HB3.out.mono HLoV.out)).setCell (p:=zc (ad.add (j*8)) 4) (by rw[vL HAD.out];exact HBg.out) (.slice B4n x.code.length c4n));have HBC:=zH (YR (HBC.out.keep HB3.out HZ2.out) (a:=zc (ad.add (j*8)) 4) (by rw[vL HAD.out];exact HNr.out) (.slice B4n x.code.length c4n));have HZ2:Hid (wr.heap.size<(u2w.setCell (zc (ad.add (j*8)) 4) (.slice B4n x.code.length c4n)).heap.size):=zH (by simpa using Nat.lt_of_lt_of_le HZ2.out HB3.out.size);have HGl:Hid (g<(u2w.setCell (zc (ad.add (j*8)) 4) (.slice B4n x.code.length c4n)).heap.size):=zH (by simpa using Nat.lt_of_lt_of_le HGl.out HB3.out.size);have HLoV:=zH (Nat.le_trans HZW7.out HXv.out.size);have hn:=Zu ElF.mono HN2.out (j*8+4) (.slice B4n x.code.length c4n);rw[←qY HAD.out (by decide)]at hn;have HN2:=zH hn;have hn2:=Zu (ElS.mono zi.mono) (Yr (ElS.mono zi.mono) HN0.out HB3.out) (j*8+4) (.slice B4n x.code.length c4n);rw[←qY HAD.out (by decide)]at hn2;have HN0:=zH hn2;clear hn2;have hn2:=Zu (ElS.mono zi.mono) (Yr (ElS.mono zi.mono) HN1.out HB3.out) (j*8+4) (.slice B4n x.code.length c4n);rw[←qY HAD.out (by decide)]at hn2;have HN1:=zH hn2;clear hn2;clear hm' hn HMid3 HB3 q0 r1 s1 f1;go_upto_region 17 with fail
     generalize u2w.setCell (zc (ad.add (j*8)) 4) (.slice B4n x.code.length c4n)=V3 at*
     have hKv:=(HXv.out.block _ hN1b).trans HK7.out;have q0:V3.drew.cell? ⟨w.heap.size,3,none⟩=_:=jh hKv 3 _ rfl;have r1:V3.drew.cell? ⟨wr.heap.size,7,none⟩=_:=HBC.out 7 _ rfl;clear hKv;have HXw:Hid (Below w.heap.size w V3.drew):=zH ((HX7.out.trans (HXv.out.mono (Nat.le_of_lt hN1b))).drew);have HN12:Hid (w.heap.size<V3.heap.size):=zH (by have:=HLoV.out;have:=hN1b;omega);go_region_held3 (fun w'=>w'.cell? ⟨w.heap.size,3,none⟩=some (.slice (some ad) m.methods.length c3)∧w'.cell? ⟨wr.heap.size,7,none⟩=some (.slice B7 x.phi.length k7))
      (first|go_keep|exact⟨q0,r1⟩|exact⟨(Zw (by rw[vL HAD.out];exact HNg.out.symm) _).trans q0,(Zw (by rw[vL HAD.out];exact HNr.out) _).trans r1⟩)
      (first|(go_at_call 64;(with_reducible refine(q58 HQ7 HB HXw HF7).mono ?_);rintro e u3w ⟨B7n,c7n,rfl,hsl,hfr,hb⟩;have hb':Below V3.heap.size V3 u3w:=((zb V3.heap.size V3).drew).trans hb;have hm:=HMid.out.keep jK.mono hb';have f1:u3w.frozen? (zc (ad.add (j*8)) 7)=false:=(by rw[qY HAD.out (by decide)];exact hm.cell.2.2.1 _);have s1:u3w.cell? (zc (ad.add (j*8)) 7)=some (.slice B7 x.phi.length k7):=(by rw[qY HAD.out (by decide)];exact hm.cell.2.2.2 7 _ rfl);have HMid3:=zH hm;have HB3:=zH hb';have HN3:=zH (Vx (base:=W6.heap.size) (g:=g) (n:=m.methods.length) (c:=c3) (ElS.mono zo.mono) (q0k hsl) HLoV.out HGl.out);have q0:=(hb.cell (p:=⟨w.heap.size,3,none⟩) HN12.out).trans q0;have r1:=(hb.cell (p:=⟨wr.heap.size,7,none⟩) HZ2.out).trans r1;clear hsl hfr hb hb' hm))
     have hm':=HMid3.out.turn jK.mono (r:=7) (by decide) (.slice B7n x.phi.length c7n);rw[←qY HAD.out (by decide)]at hm';have HMid:=zH hm';have HXv:=zH ((HXv.out.trans (HB3.out.mono HLoV.out)).setCell (p:=zc (ad.add (j*8)) 7) (by rw[vL HAD.out];exact HBg.out) (.slice B7n x.phi.length c7n));have HBC:=zH (YR (HBC.out.keep HB3.out HZ2.out) (a:=zc (ad.add (j*8)) 7) (by rw[vL HAD.out];exact HNr.out) (.slice B7n x.phi.length c7n));have HZ2:Hid (wr.heap.size<(u3w.setCell (zc (ad.add (j*8)) 7) (.slice B7n x.phi.length c7n)).heap.size):=zH (by simpa using Nat.lt_of_lt_of_le HZ2.out HB3.out.size);have HGl:Hid (g<(u3w.setCell (zc (ad.add (j*8)) 7) (.slice B7n x.phi.length c7n)).heap.size):=zH (by simpa using Nat.lt_of_lt_of_le HGl.out HB3.out.size);have HLoV:=zH (Nat.le_trans HZW7.out HXv.out.size);have hn:=Zu (ElS.mono zo.mono) HN3.out (j*8+7) (.slice B7n x.phi.length c7n);rw[←qY HAD.out (by decide)]at hn;have HN3:=zH hn;have hn2:=Zu (ElS.mono zi.mono) (Yr (ElS.mono zi.mono) HN0.out HB3.out) (j*8+7) (.slice B7n x.phi.length c7n);rw[←qY HAD.out (by decide)]at hn2;have HN0:=zH hn2;clear hn2;have hn2:=Zu (ElS.mono zi.mono) (Yr (ElS.mono zi.mono) HN1.out HB3.out) (j*8+7) (.slice B7n x.phi.length c7n);rw[←qY HAD.out (by decide)]at hn2;have HN1:=zH hn2;clear hn2;have hn2:=Zu ElF.mono (Yr ElF.mono HN2.out HB3.out) (j*8+7) (.slice B7n x.phi.length c7n);rw[←qY HAD.out (by decide)]at hn2;have HN2:=zH hn2;clear hn2;clear hm' hn HMid3 HB3 q0 r1 s1 f1;have hcl':=HMid.out.closed (fun y hy=>by
      rw[HXL.out]at hy;injection hy with hy;subst hy;exact⟨B0n,c0n,B1n,c1n,B4n,c4n,B7n,c7n,rfl,HN0.out,HN1.out,HN2.out.1,HN3.out,HN2.out.2⟩)
     rw[←HAD.out]at hcl';have HCn:=zH hcl';clear hcl';go_wp2_with fail
     go_roundw;case rel=>exact⟨j+1,by omega,by go_num,HCn,HXv⟩
     case measure=>simp[intOf];omega
    ·obtain⟨A,c,hv,hsl⟩:=(HC.out.done (by omega)).slice jK.at_ jK.mono (by decide);injection hv with e1 e2 e3;subst e1 e3;have HOw:=zH (qr4 (HC.out.done (by omega)));have HLof:=zH (Nat.le_trans (Nat.le_trans HZ6.out HZW7.out) HX.out.size);have HT3:Hid (zd jW 8 (zW (old wa) wr) wr.heap.size A3 c3 m.methods):=zH (hsl.hole jW.mono (zn _) fun b hb hs=>⟨kr.mpr (by have:=HZ6.out;simp at hs;omega),rfl⟩);have HT0:=zH (Ye jc.mono HT0.out HX.out);have HT1:=zH (Ye zi.mono HT1.out HX.out);have HT2:=zH (Ye jo.mono HT2.out HX.out);have HKf:=zH ((HX.out.block _ (Nat.lt_of_lt_of_le hN1 HZ6.out)).trans HK7.out);have HJf:=zH ((HX.out.block _ (Nat.lt_of_lt_of_le hN2 HZ6.out)).trans HJ7.out);have HNKf:=zH (lt_of_block HKf.out);have HNJf:=zH (lt_of_block HJf.out);have HXf:=zH (HX7.out.trans (HX.out.mono (Nat.le_trans (Nat.le_of_lt hN1) HZ6.out)));have HZ67:=zH (Nat.le_trans HZW7.out HX.out.size);have q4:=jh HKf.out 4 _ rfl;have HCR:=HC;have HRL:Hid (w.heap.size<wr.heap.size):=zH (Nat.lt_of_lt_of_le hN1b HZ67.out);have HRL2:Hid (w.heap.size+1<wr.heap.size):=zH (Nat.lt_of_lt_of_le (Nat.lt_of_lt_of_le hN2 HZ6.out) HZ67.out);have HAR:Hid (∀ad,A3=some ad→W6.heap.size≤ad.block∧ad.block<wr.heap.size):=zH (by
      obtain⟨vss,_,_,h3,_⟩:=HC.out;exact fun ad e=>h3.lt ad.block (by rw[e];rfl))
     clear hsl e2 HX HC;go_wp2_with(go_at_call 64;(with_reducible refine(q58 HS4 HB HXf Z4).mono ?_);rintro e w9 ⟨A4,c4,rfl,hsl,hfr,hb⟩;have hk:=(hb.block _ HNKf.out).trans HKf.out;have hj:=(hb.block _ HNJf.out).trans HJf.out;have q0:=jh hk 0 _ rfl;have q1:=jh hk 1 _ rfl;have q2:=jh hk 2 _ rfl;have q3:=jh hk 3 _ rfl;have q4:=jh hk 4 _ rfl;have q5:=jh hk 5 _ rfl;have q6:=jh hk 6 _ rfl;have f4:=ZJ hk 4;have p0:=jh hj 0 _ rfl;have g0:=ZJ hj 0;have p1:=jh hj 1 _ rfl;have g1:=ZJ hj 1;have p2:=jh hj 2 _ rfl;have g2:=ZJ hj 2;have p3:=jh hj 3 _ rfl;have g3:=ZJ hj 3;have p4:=jh hj 4 _ rfl;have g4:=ZJ hj 4;have p5:=jh hj 5 _ rfl;have g5:=ZJ hj 5;have p6:=jh hj 6 _ rfl;have g6:=ZJ hj 6;have HX9:=zH ((HXf.out.trans (hb.mono HXf.out.size)).setCell (p:=⟨w.heap.size,4,none⟩) (zn _) (.slice A4 m.entries.length c4));have HT4:=zH (Yt zo.mono (q4k zo.mono hsl HLof.out) (a:=⟨w.heap.size,4,none⟩) hN1 (.slice A4 m.entries.length c4));have HT0:=zH (Yl jc.mono (q13 jc.mono HT0.out hb HZ67.out) (a:=⟨w.heap.size,4,none⟩) hN1 (.slice A4 m.entries.length c4));have HT1:=zH (Yl zi.mono (q13 zi.mono HT1.out hb HZ67.out) (a:=⟨w.heap.size,4,none⟩) hN1 (.slice A4 m.entries.length c4));have HT2:=zH (Yl jo.mono (q13 jo.mono HT2.out hb HZ67.out) (a:=⟨w.heap.size,4,none⟩) hN1 (.slice A4 m.entries.length c4));have HT3:=zH (Yl jW.mono (q13 jW.mono HT3.out hb (zn _)) (a:=⟨w.heap.size,4,none⟩) hN1 (.slice A4 m.entries.length c4));have HOw:=zH (HOw.out.keep (w':=w9.setCell ⟨w.heap.size,4,none⟩ (.slice A4 m.entries.length c4)) fun b h1 h2=>(Below.heap_setCell _ _ _ _ (by show b≠w.heap.size;have:=HZ6.out;omega)).trans (hb.block b h2));have HS9:=zH (q2u hb.size ⟨w.heap.size,4,none⟩ (.slice A4 m.entries.length c4));have HE9:=zH (Yt zo.mono hsl (a:=⟨w.heap.size,4,none⟩) HRL.out (.slice A4 m.entries.length c4));have HR9:=zH ((HCR.out.keep jK.mono hb).other jK.mono (a:=⟨w.heap.size,4,none⟩) hN1b (.slice A4 m.entries.length c4));clear hk hj hsl hfr hb)
     refine bodyPost_ret (v:= .agg #[.slice A0 m.classes.length c0,.slice A1 m.statics.length c1,.slice A2 m.ints.length c2,.slice A3 m.methods.length c3,.slice A4 m.entries.length c4,.int .i64 m.stack,.int .i64 m.heap]) (by simp[results,Tryz.results36,go_sem,p0,p1,p2,p3,p4,p5,p6]) rfl ?_;have hrw:vt jK (set7 (w9.setCell ⟨w.heap.size,4,none⟩ (.slice A4 m.entries.length c4)) (w.heap.size+1) (.slice A0 m.classes.length c0) (.slice A1 m.statics.length c1) (.slice A2 m.ints.length c2) (.slice A3 m.methods.length c3) (.slice A4 m.entries.length c4) (.int .i64 m.stack) (.int .i64 m.heap)) W6.heap.size 42 8 (.slice A3 m.methods.length c3) m.methods:=(HR9.out.end7 jK.mono (N:=w.heap.size+1) (Nat.lt_of_lt_of_le hN2 HZ6.out)).done (by omega);obtain⟨zs,e1,e2,e3,e4⟩:=qgn (bs:=w.heap.size) (Nat.le_of_lt hN1b) hrw;refine⟨⟨A0,A1,A2,A3,A4,c0,c1,c2,c3,c4⟩,zs,W6.heap.size,rfl,⟨?_,?_,?_,?_,?_⟩,?_,?_,Nat.le_of_lt hN1b,⟨e2,e1,e3,q4l jc.mono HT0.out hN2 (Nat.le_trans HZ67.out HS9.out) (fun ad ea=>(HAR.out ad ea).1) (Nat.le_of_lt hN1),q4l zi.mono HT1.out hN2 (Nat.le_trans HZ67.out HS9.out) (fun ad ea=>(HAR.out ad ea).1) (Nat.le_of_lt hN1),q4l jo.mono HT2.out hN2 (Nat.le_trans HZ67.out HS9.out) (fun ad ea=>(HAR.out ad ea).1) (Nat.le_of_lt hN1),qkf zo.mono HE9.out HRL2.out (fun ad ea=>(HAR.out ad ea).2) (Nat.le_of_lt HRL.out),Nat.le_of_lt hN1b⟩⟩
     ·exact q08 jc.mono HT0.out hN2 (Nat.le_trans HZ67.out HS9.out)
     ·exact q08 zi.mono HT1.out hN2 (Nat.le_trans HZ67.out HS9.out)
     ·exact q08 jo.mono HT2.out hN2 (Nat.le_trans HZ67.out HS9.out)
     ·exact q08 jW.mono HT3.out hN2 HS9.out
     ·exact q08 zo.mono HT4.out hN2 (zn _)
     ·exact q9q HX9.out
     ·exact qog (HOw.out) hN2 HZ6.out (Nat.le_of_lt hN1)
end Go.Proofs.YtdbfllajopcccaaGreat
