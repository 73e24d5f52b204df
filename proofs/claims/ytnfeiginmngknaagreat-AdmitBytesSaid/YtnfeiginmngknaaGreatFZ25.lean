import Derived.Test.YtnfeiginmngknaaGreatFZ05
import Derived.Test.YtnfeiginmngknaaGreatFZ14
namespace Go.Proofs.YtnfeiginmngknaaGreat
set_option maxRecDepth 100000
set_option linter.unusedVariables false
set_option linter.unusedSimpArgs false
open Go.ChangeShapes Go.WideShapes Go.ChangeAt Go.RowKit
theorem KE{m:za}{x:zl}{a b:Int}{op:Int}(ho:op=3\/op=4)(h:zK m x op a b=true):a<x.args.length+x.locals.length:=by
 rcases ho with rfl|rfl<;>simpa[zK]using h
theorem uH{m:za}{x:zl}{a b:Int}{op:Int}(ho:op=29\/op=30)(h:zK m x op a b=true):a<m.statics.length:=by
 rcases ho with rfl|rfl<;>simpa[zK]using h
theorem PV{m:za}{x:zl}{a b:Int}{op:Int}(ho:op=22\/op=34)(h:zK m x op a b=true):a<m.classes.length:=by
 rcases ho with rfl|rfl<;>simpa[zK]using h
theorem oZ{m:za}{x:zl}{a b:Int}{op:Int}(ho:op=27\/op=28)(h:zK m x op a b=true):a<m.classes.length/\b<(qg m.classes a).length:=by
 rcases ho with rfl|rfl<;>simpa[zK]using h
theorem RV{m:za}{x:zl}{a b:Int}{op:Int}(ho:op=18\/op=19)(h:zK m x op a b=true):a<x.code.length:=by
 rcases ho with rfl|rfl<;>simpa[zK]using h
theorem o8{m:za}{x:zl}{a b:Int}(h:zK m x 31 a b=true):a<m.methods.length:=by simpa[zK]using h
theorem o7{m:za}{x:zl}{a b:Int}(hm:zP m)(a0:0<=a)(b0:0<=b)(h:zK m x 32 a b=true):
  a<m.classes.length/\∃(k:Nat) (y:zl),kP m.classes a b=some (k:Int)/\m.methods[k]? =some y/\0<y.args.length:=by
 simp[zK]at h;obtain⟨h1,h2⟩:=h;obtain⟨i,rfl⟩:=Xj a0;obtain⟨j,rfl⟩:=Xj b0;have hi:i<m.classes.length:=by omega
 unfold mJ at h2;rw[Xo,Xc hi]at h2;dsimp only at h2;have hj:j<m.classes[i].slots.length:=by omega
 have hc:=hm.cls i _ (Xc hi);obtain⟨y,hy,ha⟩:=Uq hc _ (Xd hj);have hs:=((hm.fits.ct _ (Xd hi)).st _ (Xd hj)).1;obtain⟨k,hk⟩:=Xj hs;refine⟨h1,k,y,by rw[IX hi hj,hk],?_,ha⟩;rw[hk,Xo]at hy;exact hy
abbrev Mg(N:Nat)(h:zh)(m:za)(a:Int)(ad:Addr)(f:Nat)(hx:qH)(x:zl)(w':World):Prop:=w'.cell? ⟨N,3,none⟩=some (.slice (some ad) m.methods.length h.c3)/\w'.cell? ⟨N+1,1,none⟩=some (.int .i64 a)/\w'.cell? (ad.add (f*8))=some (.slice hx.A0 x.args.length hx.k0)/\w'.cell? (zc (ad.add (f*8)) 1)=some (.slice hx.A1 x.locals.length hx.k1)/\w'.cell? (zc (ad.add (f*8)) 2)=some (.int .i64 x.ret.1)/\w'.cell? (zc (ad.add (f*8)) 3)=some (.int .i64 x.ret.2)/\w'.cell? (zc (ad.add (f*8)) 4)=some (.slice hx.A4 x.code.length hx.k4)/\w'.cell? (zc (ad.add (f*8)) 5)=some (.int .i64 x.depth)/\w'.cell? (zc (ad.add (f*8)) 6)=some (.int .i64 x.pot)/\w'.cell? (zc (ad.add (f*8)) 7)=some (.slice hx.A7 x.phi.length hx.k7)
theorem Ww{w1:World}{N f:Nat}{h:zh}{m:za}{op a b:Int}{x:zl}(HP:Hid (wI w1 N h m op a b))(HI:Hid (zr w1 w1.heap.size h m))(hg:m.methods[f]? =some x):∃ad hx,h.A3=some ad/\Hid (jR w1 w1.heap.size hx x)/\Hid (∀W,Below w1.heap.size w1 W->Mg N h m a ad f hx x W):=by
 obtain⟨hfm,hgx⟩:=Xv.mp hg;obtain⟨ad,hx,e0,hab,VU,hmc⟩:=Zx HI.out hfm;rw[hgx]at VU hmc;have hz:=HP.out.size;refine⟨ad,hx,e0,zH VU,zH fun W hW=> ?_⟩;obtain⟨d0,d1,d2,d3,d4,d5,d6,d7⟩:=hmc.keep hW (by exact zZ hab);exact⟨(hW.cell (p:=⟨N,3,none⟩) (by show N<_;omega)).trans (e0 ▸ HP.out.img.2.2.2.1),(hW.cell (p:=⟨N+1,1,none⟩) (by show N+1<_;omega)).trans (HP.out.ins 1 _ rfl),d0,d1,d2,d3,d4,d5,d6,d7⟩
theorem lf_ru{P:Prop}(h:P:=by
 go_wp2_with fail
 first|go_ret2|(go_region;all_goals(go_wp2_with fail;go_ret2))
 all_goals
  refine⟨_,_,_,_,rfl,?_,?_,HW.out.trans (by repeat(first|exact zb _ _|refine Below.alloc ?_ (by first|omega|(simp;omega)) _|refine Below.drew ?_))⟩
  ·first|exact va|exact JT (by simp;omega) (by go_simp) (by go_simp)|exact LW (by simp;omega) (by go_simp) (by go_simp) (by go_simp) (by go_simp)|exact new_t3 (by simp;omega) (by go_simp) (by go_simp) (by go_simp) (by go_simp) (by go_simp) (by go_simp)
  ·first|exact va|exact JT (by simp;omega) (by go_simp) (by go_simp)):P:=h
set_option maxHeartbeats 12800000 in
theorem qg4(m:za)(x:zl)(f:Nat)(op a b:Int)(h:zh)(w:World)(H:zr w w.heap.size h m)(hm:zP m)(hg:m.methods[f]? =some x)(hi:qs op a b=true)(hn:zK m x op a b=true):
  Calls Tryz.prog 96 #[zv h m,.int .i64 f,qt op a b] w (EK (jq m x op a b) (jg m x op a b) w):=by
 obtain⟨o0,o1,a0,a1,b0,b1⟩:=YN hi;have hx:=hm.method (Xr hg);have hal:x.args.length<=1048576:=by have:=hx.fits.al;omega
 have hll:x.locals.length<=1048576:=by have:=hx.fits.ll;omega
 have hcl:m.classes.length<=1000:=by have:=hm.fits.cl;omega
 have hfl:∀c ∈m.classes,c.fields.length<=1000:=fun c hc=>by have:=(hm.fits.ct c hc).fl;omega
 by_cases n27:op=27
 ·subst n27;obtain⟨k,rfl⟩:=Xj b0;exact qja m x f a k (by have:=(oZ (op:=27) (by omega) hn).2;omega) hcl hfl h w H
 by_cases n28:op=28
 ·subst n28;obtain⟨k,rfl⟩:=Xj b0;exact qj9 m x f a k (by have:=(oZ (op:=28) (by omega) hn).2;omega) hcl hfl h w H
 by_cases n32:op=32
 ·subst n32;obtain⟨_,k,y,hs,hy,hp⟩:=o7 hm a0 b0 hn;exact qj8 m x f a b k hs y hy hp (by have:=(hm.method (Xr hy)).fits.al;omega) h w H
 obtain⟨L,hL⟩:=zj (jq m x op a b);obtain⟨M,hM⟩:=zj (jg m x op a b);obtain⟨hw,hp⟩:=DC h m op a b w;have HW:=zH hw;have HP:=zH hp;have HI:=zH (H.now hw);have HG:=zH hg;have Qf:=zH hn;have fG:=zH (And.intro hL hM);rw[hL,hM];clear hw hp H hx hm hg hi hn hcl hfl hL hM;go_enter Tryz.func96,Tryz.ntmps96;go_upto_region 3 with fail
 change Code.wp _ _ _ _ (eZ h m op a b w);generalize eZ h m op a b w=w1 at*
 obtain⟨o0,o1,o2⟩:=qv HP.out.ins;have hz:=HP.out.size;obtain⟨q0,q1,q2,q3,q4,q5,q6⟩:=HP.out.img;by_cases ns:op=29\/op=30
 ·obtain⟨j,rfl⟩:=Xj a0;have hj:j<m.statics.length:=by have:=uH ns Qf.out;omega
  have e0:gX m (j:Int)=m.statics[j]:=by unfold gX;rw[Xo,Xc hj];rfl
  have l1:=HI.out.statics.le;have l2:=HI.out.statics.cap;obtain⟨hL,hM⟩:=fG.out;clear fG;rcases ns with rfl|rfl<;>simp[jq,e0]at hL<;>simp[jg,e0]at hM<;>subst hL<;>subst hM<;>clear e0<;>(obtain⟨ad,e0,hab,r0,r1⟩:=HI.out.statics.row.at_ hj)<;>rw[e0]at q1<;>clear e0<;>exact lf_ru
 by_cases n31:op=31
 ·subst n31;obtain⟨j,rfl⟩:=Xj a0;have hj:j<m.methods.length:=by have:=o8 Qf.out;omega
  obtain⟨y,hy⟩:∃y,m.methods[j]? =some y:=⟨_,Xc hj⟩
  obtain⟨G,hG⟩:=zj (vb y);have HR:=zH hG;obtain⟨hL,hM⟩:=fG.out;simp[jq,zA,hy]at hL;simp[jg,zA,hy,hG]at hM;subst hL hM;obtain⟨ad,hx,e0,HM,HK⟩:=Ww HP HI hy;rw[e0]at q3;have l3:=HI.out.methods.le;have bz:=HI.out.methods.cap;clear fG e0 hG hy;have HX:Hid (Below w1.heap.size w1 w1.drew):=zH (zb w1.heap.size w1).drew;obtain⟨-,-,c0,c1,c2,c3,c4,c5,c6,c7⟩:=HK.out _ (zb _ _);go_wp2_with fail
  go_region_held3 (Mg w.heap.size h m (j:Int) ad j hx y) (first|exact HK.out _ HX.out|exact HK.out _ zp.out) (first|(go_at_call 129;(with_reducible refine(DY (hx:=hx) HR).mono ?_);rintro e w3 ⟨A5,c5,rfl,hs,hb⟩;have zp:=zi HX hb;have jM:=zH hs;clear hb hs))
  all_goals
   go_wp2_with fail
   go_ret2
   exact⟨_,_,_,_,rfl,(HM.out.now zp.out).args,jM.out,zD HW zp⟩
 by_cases nm:op=3\/op=4\/op=33
 ·obtain⟨ad,hx,e0,HM,HK⟩:=Ww HP HI HG.out;have l3:=HI.out.methods.le;have bz:=HI.out.methods.cap;have hfm:f<m.methods.length:=(Xv.mp HG.out).1;rw[e0]at q3;obtain⟨hL,hM⟩:=fG.out;obtain⟨-,-,c0,c1,c2,c3,c4,c5,c6,c7⟩:=HK.out _ (zb _ _);clear fG e0;by_cases n33:op=33
  ·subst n33;obtain⟨G,hG⟩:=zj (vb x);have HR:=zH hG;simp[jq,hG]at hL;simp[jg]at hM;subst hL hM;clear hG nm;have HX:=qP w1;go_wp2_with(go_at_call 129;(with_reducible refine(DY (hx:=hx) HR).mono ?_);rintro e w3 ⟨A5,c5,rfl,hs,hb⟩;have zp:=zi HX hb;have jM:=zH hs;clear hb hs)
   go_ret2
   exact⟨_,_,_,_,rfl,jM.out,va,zD HW zp⟩
  obtain⟨t,ht⟩:=zj (vB x a);have HR:=zH ht;have HX:Hid (Below w1.heap.size w1 w1.drew):=zH (zb w1.heap.size w1).drew;have ha:a<=9223372036854775807:=by omega
  have nn:op=3\/op=4:=by omega
  clear nm n33;rcases nn with rfl|rfl<;>simp[jq,ht]at hL<;>simp[jg,ht]at hM<;>subst hL<;>subst hM<;>clear ht<;>go_wp2_with fail;all_goals
   go_region_held3 (Mg w.heap.size h m a ad f hx x) (first|exact HK.out _ HX.out|exact HK.out _ zp.out|exact HK.out _ (zp.out.alloc zp.out.size _)) (first|(go_at_call 128;(with_reducible refine(qbs HM HX HR ha hal hll).mono ?_);rintro e w3 ⟨rfl,hb⟩;have zp:=zi HX hb;clear hb))
   all_goals
    go_wp2_with fail
    go_ret2
    refine⟨_,_,_,_,rfl,?_,?_,HW.out.trans ((zp.out.alloc zp.out.size _).mono HW.out.size)⟩
    ·first|exact va|exact JT (by simp) (by go_simp) (by go_simp)
    ·first|exact va|exact JT (by simp) (by go_simp) (by go_simp)
 obtain⟨hL,hM⟩:=fG.out;clear fG q0 q1 q2 q3 q4 q5 q6;have t10:=HP.out.t1 0 _ rfl;have t11:=HP.out.t1 1 _ rfl;have t20:=HP.out.t2 0 _ rfl;have t21:=HP.out.t2 1 _ rfl;have t40:=HP.out.t4 0 _ rfl;have t41:=HP.out.t4 1 _ rfl;have t00:=HP.out.t0 0 _ rfl;have t01:=HP.out.t0 1 _ rfl;have t30:=HP.out.t3 0 _ rfl;have t31:=HP.out.t3 1 _ rfl;have hc:op=1\/op=2\/op=5\/op=6\/op=7\/op=8\/op=9\/op=10\/op=11\/op=12\/op=13\/op=14\/op=15\/op=16\/op=17\/op=18\/op=19\/op=20\/op=21\/op=22\/op=23\/op=24\/op=25\/op=26\/op=34:=by omega
 clear n27 n28 n31 n32 ns nm;rcases hc with rfl|rfl|rfl|rfl|rfl|rfl|rfl|rfl|rfl|rfl|rfl|rfl|rfl|rfl|rfl|rfl|rfl|rfl|rfl|rfl|rfl|rfl|rfl|rfl|rfl<;>simp[jq]at hL<;>simp[jg]at hM<;>subst hL<;>subst hM<;>exact lf_ru
