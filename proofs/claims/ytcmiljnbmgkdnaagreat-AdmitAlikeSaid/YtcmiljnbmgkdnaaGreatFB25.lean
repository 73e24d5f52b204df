import Derived.Test.YtcmiljnbmgkdnaaGreatFB23
namespace Go.Proofs.YtcmiljnbmgkdnaaGreat
set_option maxRecDepth 100000
set_option linter.unusedVariables false
set_option linter.unusedSimpArgs false
open Go.ChangeShapes Go.WideShapes Go.ChangeAt Go.RowKit
def q3l(L:List (Int×Int))(w:World)(e:Ending)(w':World):Prop:=∃A' c',e= .returned (.slice A' L.length c')∧ze zc 2 w' w'.heap.size A' c' L∧(L≠ []→∃gi rest,A'=some ⟨gi,0,none⟩∧w.heap.size≤gi∧zd w' gi (qk L++rest) 50)∧Below w.heap.size w w'
theorem q1k{α:Type}{At:AtP α}(hK:vm At){k:Nat}{w w':World}{A:Option Addr}{c:Nat}{l:List α}(h:ze At k w w.heap.size A c l)(hb:Below w.heap.size w w'):ze At k w' w'.heap.size A c l:=
 (h.below_to hK hb (zn _)).keep' hK hb.size (fun _ _=>rfl)
theorem qoz{sup:List Int}{L:List (Int×Int)}{k:Nat}{s1 s2 t1 t2:Int}(h:zA sup t1 t2 s1 s2=true)(hf:zG sup L L)(hk:k<L.length)(e:L[k]=(s1,s2)):¬(jh sup (s1,s2) (t1,t2)).1=0:=by
 unfold jh;rw[Xb h];have:=hf.2 k hk hk;rw[e]at this;have:=(VL this).2;exact fun q=>by dsimp only at*;omega
theorem qqk{L:List (Int×Int)}{w w':World}{v:Value}(h:w'.ownsRow w.heap.size 50 2 v L.length (qk L))(hb:Below w.heap.size w w'):q3l L w (.returned v) w':=by
 obtain⟨A,c,rfl,hs,_⟩:=YN h;refine⟨A,c,rfl,hs,fun hn=> ?_,hb⟩;obtain⟨g,c',rest,e,h1,h2⟩:=qbd h (by cases L with|nil=>exact absurd rfl hn|cons=>simp);injection e with e1;exact⟨g,rest,e1,h1,h2⟩
theorem qik(L:List (Int×Int))(A:Option Addr)(c:Nat)(w:World)(h:ze zc 2 w w.heap.size A c L)(hl:L.length≤1000):
  Calls Tryz.prog 143 #[.slice A L.length c] w (q3l L w):=by
 cases A with
 |none=>
  have hL:L=[]:=by
   cases L with
   |nil=>rfl
   |cons a L=>obtain⟨ad,e,_⟩:=h.row 0 a rfl;cases e
  subst hL;have hq:=fun w=>Lib.run_eql_slice_nil (P:=Tryz.prog) w 23 50 none 0 c 0 0 Tryz.underlying23;show Calls Tryz.prog 143 #[.slice none 0 c] w (q3l [] w);go_enter Tryz.func143,Tryz.ntmps143;go_wp2
  go_ret;exact⟨none,0,rfl,kv,fun q=>absurd rfl q,zb _ _⟩
 |some ad=>
  have hq:=fun w=>Lib.run_eql_slice_nil (P:=Tryz.prog) w 23 50 (some ad) L.length c 0 0 Tryz.underlying23;obtain⟨ti,hti,ht0,ht1,ht2⟩:=jU JS;have HXE:Hid (Below w.heap.size w (w.alloc (.cells #[] 50))):=zH ((zb _ _).alloc (zn _) _);have HT:=zH (YZ (h.below_to zc.keeps HXE.out (zn _)).row);clear h;go_enter Tryz.func143,Tryz.ntmps143;go_wp2_with(at_builtin;refine Zj rfl _ _ 23 rfl w.heap.size 50 ti (.agg #[.int .i64 0,.int .i64 0]) 2 16 Tryz.underlying23 hti ht0 ht1 ht2 rfl (by decide) _ 0 [] rfl (YE w 50 2) (some ad) L.length c _ (qk L) (JU _) rfl HT.out (Jn _) (by unfold maxLen;omega) (by omega) (by simp) ?_;intro v6 w6 hown hgrow;have HX6:=zH (jV HXE.out (YE w 50 2) (by simp) hgrow);have HO6:Hid (w6.ownsRow w.heap.size 50 2 v6 L.length (qk L)):=zH (by simpa using hown);clear hown hgrow)
  go_ret;exact qqk HO6.out HX6.out
theorem qn2{L:List (Int×Int)}{A:Option Addr}{c:Nat}{w0 w:World}(HS:Hid (ze zc 2 w0 w0.heap.size A c L))(HX:Hid (Below w0.heap.size w0 w))(hl:L.length≤1000):Calls Tryz.prog 143 #[.slice A L.length c] w (q3l L w):=
 qik L A c w ((HS.out.below_to zc.keeps HX.out (zn _)).keep' zc.keeps HX.out.size (fun _ _=>rfl)) hl
theorem qui{sup:List Int}{A0:Option Addr}{c0 B:Nat}{x y t0 t1:Int}{w0 w:World}{r:Bool}(HS:Hid (qY w0 B A0 sup))(HX:Hid (Below B w0 w))(HB:Hid (B≤w0.heap.size))(HL:Hid (sup.length≤1000))(HR:Hid (zA sup x y t0 t1=r)):
  Calls Tryz.prog 144 #[.slice A0 sup.length c0,.agg #[.int .i64 x,.int .i64 y],.agg #[.int .i64 t0,.int .i64 t1]] w fun e w'=>e= .returned (.bool r)∧Below w.heap.size w w':=by
 have H:=QS sup x y t0 t1 A0 c0 B w (by have:=HL.out;omega) (Xd HB.out HX.out.size) (HS.out.below_to HX.out (zn _));rw[HR.out]at H;exact H
theorem qrj{sup:List Int}{A0:Option Addr}{c0 B:Nat}{x y t0 t1:Int}{w0 w:World}{r:Int×Int}(HS:Hid (qY w0 B A0 sup))(HX:Hid (Below B w0 w))(HB:Hid (B≤w0.heap.size))(HL:Hid (sup.length≤1000))(HR:Hid (qB sup x y t0 t1=r)):
  Calls Tryz.prog 145 #[.slice A0 sup.length c0,.agg #[.int .i64 x,.int .i64 y],.agg #[.int .i64 t0,.int .i64 t1]] w fun e w'=>e= .returned (.agg #[.int .i64 r.1,.int .i64 r.2])∧Below w.heap.size w w':=by
 have H:=qoy sup x y t0 t1 A0 c0 B w (by have:=HL.out;omega) (Xd HB.out HX.out.size) (HS.out.below_to HX.out (zn _));rw[HR.out]at H;exact H
def vk(g:Nat)(y:zr)(w w':World):Prop:=∀b,b<w.heap.size→b≠g→(y.seen=true→y.stack≠ []→∀ad,y.A=some ad→ad.block≠b)→w'.heap[b]? =w.heap[b]?
theorem vk.refl(g:Nat)(y:zr)(w:World):vk g y w w:=fun _ _ _ _=>rfl
theorem vk.more{g:Nat}{y:zr}{w w1 w2:World}(h:vk g y w w1)(hz:w.heap.size≤w1.heap.size)(hb:Below w1.heap.size w1 w2):vk g y w w2:=fun b h1 h2 h3=>(hb.block b (by omega)).trans (h b h1 h2 h3)
theorem vk.put{g i:Nat}{y x:zr}{w w1:World}(h:vk g y w w1):vk g y w (ZX w1 g i x):=fun b h1 h2 h3=>by
 unfold ZX;rw[Below.heap_setCell _ _ _ b (by exact h2),Below.heap_setCell _ _ _ b (by exact h2)];exact h b h1 h2 h3
theorem vk.turn{g gi k:Nat}{y:zr}{t:Int×Int}{w w1:World}(h:vk g y w w1)(hs:y.seen=true)(hn:y.stack≠ [])(e:y.A=some ⟨gi,0,none⟩):vk g y w (Yj w1 gi k t):=fun b h1 h2 h3=>by
 rw[q4p _ _ _ _ _ (fun q=>h3 hs hn _ e q.symm)];exact h b h1 h2 h3
def q7a(sup:List Int)(B g tg:Nat)(X:List zr)(y:zr)(st:List (Int×Int))(w:World)(e:Ending)(w':World):Prop:=∃grown ok,e= .returned (.tuple #[.bool grown,.bool ok])∧Below B w w'∧vk g y w w'∧
 (ok=false→q0b sup y.shp st)∧(ok=true→∃x':zr,x'.seen=true∧jR w' B g (X.set tg x')∧kE sup y.shp st x'.stack grown∧(y.seen=true→x'.A=y.A)∧(y.seen=false→x'.stack≠ []→∀ad,x'.A=some ad→w.heap.size≤ad.block))
theorem q8v{sup:List Int}{B g tg:Nat}{X:List zr}{y:zr}{st:List (Int×Int)}{w w':World}(hb:Below B w w')(hs:vk g y w w')(h:q0b sup y.shp st):q7a sup B g tg X y st w (.returned (.tuple #[.bool false,.bool false])) w':=
 ⟨false,false,rfl,hb,hs,fun _=>h,(fun e=>by cases e)⟩
set_option maxHeartbeats 12800000 in
theorem qn1(sup:List Int)(A0:Option Addr)(c0 B g tg:Nat)(X:List zr)(y:zr)(st:List (Int×Int))(A:Option Addr)(c:Nat)(w:World)(hsl:sup.length≤1000)(hS:qY w B A0 sup)(hB:B≤w.heap.size)(hO:jR w B g X)(hto:tg<X.length)(hy:X[tg]=y)(hXl:X.length≤1000)(hst:ze zc 2 w w.heap.size A c st)(hst8:st.length≤1000)
  (hap:∀ad ax,A=some ad→y.A=some ax→y.seen=true→y.stack≠ []→st≠ []→ad.block≠ax.block) (hfs:zG sup y.stack y.stack) (hft:zG sup st st):
  Calls Tryz.prog 91 #[.slice A0 sup.length c0,.slice (some ⟨g,0,none⟩) X.length X.length,.int .i64 tg,.slice A st.length c] w (q7a sup B g tg X y st w):=by
 have c0':=hO.out.seen_at hto;have c1:=hO.out.stack_at hto;rw[hy]at c0' c1;have HS:=zH hS;have HB:=zH hB;have HL:=zH hsl;have HO:=zH hO;have HY:=zH hy;have HST:=zH hst;have HF:=zH (And.intro hfs hft);have HAP:=zH hap;have hle:=hst.le;have hcap:=hst.cap;have hysl:=hO.out.row y (by rw[←hy];exact Xf hto);have hyle:=hysl.le;have hycap:=hysl.cap;have htd0:decide ((tg:Int)<0)=false:=Xg (by omega);have htd1:decide (X.length≤tg)=false:=Xg (by omega);clear hS hO hst hap hfs hft hy hysl hB;by_cases hseen:y.seen=true;rotate_left
 ·have hseen':y.seen=false:=by simpa using hseen
  have HSE:=zH hseen';rw[hseen']at c0';clear hseen;have fz0:=HO.out.out.blk.free (tg*2);have fz1:=HO.out.out.blk.free (tg*2+1);have HX0:Hid (Below w.heap.size w w):=zH (zb _ _);go_enter Tryz.func91,Tryz.ntmps91;go_wp2_with(go_at_call 143;(with_reducible refine(qn2 HST HX0 hst8).mono ?_);rintro e w1 ⟨A',c',rfl,hs',hn',hb'⟩;have HC:=zH hs';have HN:=zH hn';have HX1:=zH hb';have HO1:=zH (HO.out.keep hb');clear hs' hn' hb' fz0 fz1;have fz0:=HO1.out.out.blk.free (tg*2);have fz1:=HO1.out.out.blk.free (tg*2+1);have d0:=HO1.out.out.seen_at hto;have d1:=HO1.out.out.stack_at hto;rw[HY.out]at d0 d1)
  go_ret2
  refine⟨true,true,rfl,((HX1.out.mono HB.out).setCell (p:=⟨g,tg*2,none⟩) HO.out.base _).setCell (p:=⟨g,tg*2+1,none⟩) HO.out.base _,?_,(fun e=>by cases e),fun _=>⟨⟨true,A',c',st⟩,rfl,?_,qlt HSE.out HF.out.2,fun e=> ?_,fun _ hne ad ea=> ?_⟩⟩
  ·exact((vk.refl g y w).more (zn _) HX1.out).put (i:=tg) (x:=⟨true,A',c',st⟩)
  ·exact jR.put (x:=⟨true,A',c',st⟩) HO.out HX1.out HB.out hto HC.out HN.out
  ·rw[HSE.out]at e;cases e
  ·obtain⟨gi,rest,e1,h1,_⟩:=HN.out hne;have ea:A'=some ad:=ea;rw[e1]at ea;injection ea with ea;subst ea;exact h1
 have HSE:=zH hseen;rw[hseen]at c0';clear hseen;by_cases hlen:st.length=y.stack.length;rotate_left
 ·have hne:((st.length:Int) !=(y.stack.length:Int))=true:=XC.mpr (by omega);have HNL:=zH hlen;clear hlen;go_enter Tryz.func91,Tryz.ntmps91;go_wp2_with fail
  go_ret2
  exact q8v (zb _ _) (vk.refl _ _ _) (qqe HSE.out HNL.out)
 have HLN:=zH hlen;obtain⟨n,hn⟩:∃n,st.length=n:=⟨_,rfl⟩
 have hyn:y.stack.length=n:=by omega
 have HN1:=zH hn;have HN2:=zH hyn;have hn8:n≤1000:=by omega
 have hln:¬(n:Int)≠(n:Int):=fun q=>q rfl;have hnn:((n:Int) !=(n:Int))=false:=bne_self_eq_false _;rw[hyn]at c1 hyle;rw[hn]at hle;clear hyn hlen hst8;rw[HN1.out];go_enter Tryz.func91,Tryz.ntmps91;go_wp2_with fail
 clear c0' c1 hnn;go_loopw [8,44] (fun s8 i wr=>∃(k:Nat) (gr:Bool),k≤n∧i= .int .i64 k∧s8= .bool gr∧Hid (jR wr B g (X.set tg ⟨true,y.A,y.c,qK sup y.stack st k⟩))∧Hid (Below B w wr)∧Hid (vk g y w wr)∧Hid (ze zc 2 wr wr.heap.size A c st)∧
  Hid (∀(i:Nat) (h1:i<y.stack.length) (h2:i<st.length),i<k→¬(jh sup y.stack[i] st[i]).1=0)∧Hid (gr=false→∀(i:Nat) (h1:i<y.stack.length) (h2:i<st.length),i<k→zA sup st[i].1 st[i].2 y.stack[i].1 y.stack[i].2=true)∧Hid (gr=true→∃(i:Nat) (h1:i<y.stack.length) (h2:i<st.length),¬zA sup st[i].1 st[i].2 y.stack[i].1 y.stack[i].2=true)) (fun _ i _=>n - (intOf i).toNat)
 case atStart=>exact⟨0,false,Xp _,rfl,rfl,zH (by
  have e:(⟨true,y.A,y.c,qK sup y.stack st 0⟩:zr)=X[tg]:=by
   rw[q55,HY.out];have:=HSE.out;cases y;simp at this;subst this;rfl
  rw[e,List.set_getElem_self];exact HO.out),zH (zb _ _),zH (vk.refl _ _ _),HST,zH (fun i _ _ h=>by omega),zH (fun _ i _ _ h=>by omega),zH (fun e=>by cases e)⟩
 case round=>
  clear HST;obtain⟨k,gr,hk,rfl,rfl,HOk,HX,HSB,HST,HZN,HG0,HG1⟩:=hrel;by_cases hkn:k<n;rotate_left
  ·have HKN:Hid (k=n):=zH (by omega);have hki:¬(k:Int)<(n:Int):=by omega
   go_wp2_with fail
   go_ret2
   refine⟨gr,true,rfl,HX.out,HSB.out,(fun e=>by cases e),fun _=>⟨_,rfl,HOk.out,?_,fun _=>rfl,fun e=> ?_⟩⟩
   ·have hkk:k=st.length:=by have:=HKN.out;have:=HN1.out;omega
    have:=qtl (sup:=sup) (s:=y.shp) (st:=st) (grown:=gr) HSE.out HLN.out HF.out.1 HF.out.2 (fun i h1 h2=>HZN.out i h1 h2 (by omega)) (fun e i h1 h2=>HG0.out e i h1 h2 (by omega)) HG1.out;rw[hkk];exact this
   ·rw[HSE.out]at e;cases e
  have hk1:k<y.stack.length:=by have:=HN2.out;omega
  have hk2:k<st.length:=by have:=HN1.out;omega
  have htX:tg<(X.set tg ⟨true,y.A,y.c,qK sup y.stack st k⟩:List zr).length:=by rw[XI];exact hto
  have hyk:(X.set tg ⟨true,y.A,y.c,qK sup y.stack st k⟩:List zr)[tg]=⟨true,y.A,y.c,qK sup y.stack st k⟩:=by rw[List.getElem_set,Xb rfl]
  obtain⟨gi,rest,eyA,hBgi,hWh⟩:=HOk.out.own tg htX (by rw[hyk];intro q;have:=Qv sup y.stack st k;dsimp only at q;rw[q]at this;simp at this;omega);rw[hyk]at eyA hWh;dsimp only at eyA hWh;have c1:=HOk.out.out.stack_at htX;rw[hyk]at c1;dsimp only at c1;rw[Qv,HN2.out,eyA]at c1;have hke:k<(qK sup y.stack st k).length:=by rw[Qv];exact hk1
  obtain⟨e0,e1⟩:=st_at hWh hke;have hck:(qK sup y.stack st k)[k]=y.stack[k]:=by
   have:=qdu sup hk1 hk2;rw[Xc hke]at this;exact Option.some.inj this
  rw[hck]at e0 e1;obtain⟨ad,rfl,hab,v0,v1⟩:=HST.out.row.at_ hk2;obtain⟨⟨t1,t2⟩,ht⟩:∃t,st[k]=t:=⟨_,rfl⟩
  obtain⟨⟨s1,s2⟩,hs⟩:∃t,y.stack[k]=t:=⟨_,rfl⟩
  rw[ht]at v0 v1;rw[hs]at e0 e1;dsimp only at v0 v1 e0 e1;have HEY:=zH eyA;have HWH:=zH hWh;have HTK:=zH ht;have HSK:=zH hs;have HBG:=zH hBgi;obtain⟨r,hr⟩:∃r,zA sup t1 t2 s1 s2=r:=⟨_,rfl⟩
  have HR:=zH hr;have HKI:=zH (show wr.heap.size<(wr.alloc (.cells #[.int .i64 t1,.int .i64 t2] 50)).heap.size by simp);have HYA:Hid (Below wr.heap.size wr (wr.alloc (.cells #[.int .i64 t1,.int .i64 t2] 50))):=zH ((zb _ _).alloc (zn _) _);have HBX:=zH (zd.new wr [.int .i64 t1,.int .i64 t2] 50);have hgsz:=HOk.out.out.blk.lt;have hgisz:=hWh.lt;clear eyA hWh ht hs hBgi hck hyk hr;go_upto_region 12 with fail
  change Code.wp _ _ _ _ (wr.alloc (.cells #[.int .i64 t1,.int .i64 t2] 50));have HC2:Hid (∀W,Below (wr.alloc (.cells #[.int .i64 t1,.int .i64 t2] 50)).heap.size (wr.alloc (.cells #[.int .i64 t1,.int .i64 t2] 50)) W→W.cell? ⟨g,tg*2+1,none⟩=some (.slice (some ⟨gi,0,none⟩) n y.c)∧W.cell? ⟨wr.heap.size,0,none⟩=some (.int .i64 t1)∧W.cell? ⟨wr.heap.size,1,none⟩=some (.int .i64 t2)∧W.cell? ⟨gi,k*2,none⟩=some (.int .i64 s1)∧W.cell? ⟨gi,k*2+1,none⟩=some (.int .i64 s2)):=zH (fun W hW=>by
   have hb2:=HYA.out.trans (hW.mono HYA.out.size);have hn0:=(HBX.out.keep hW HKI.out).cells 0 _ rfl;have hn1:=(HBX.out.keep hW HKI.out).cells 1 _ rfl;exact⟨(hb2.cell (p:=⟨g,tg*2+1,none⟩) hgsz).trans c1,hn0,hn1,(hb2.cell (p:=⟨gi,k*2,none⟩) hgisz).trans e0,(hb2.cell (p:=⟨gi,k*2+1,none⟩) hgisz).trans e1⟩)
  have HX1:Hid (Below B w (wr.alloc (.cells #[.int .i64 t1,.int .i64 t2] 50))):=zH (HX.out.trans (HYA.out.mono (by have:=HX.out.size;have:=HB.out;omega)));clear c1 e0 e1 v0 v1;generalize wr.alloc (.cells #[.int .i64 t1,.int .i64 t2] 50)=w1 at*
  have HX1D:Hid (Below B w w1.drew):=zH HX1.out.drew;have HY1D:Hid (Below w1.heap.size w1 w1.drew):=zH (zb _ _).drew;go_region_held3 (fun w'=>w'.cell? ⟨g,tg*2+1,none⟩=some (.slice (some ⟨gi,0,none⟩) n y.c)∧w'.cell? ⟨wr.heap.size,0,none⟩=some (.int .i64 t1)∧w'.cell? ⟨wr.heap.size,1,none⟩=some (.int .i64 t2)∧w'.cell? ⟨gi,k*2,none⟩=some (.int .i64 s1)∧w'.cell? ⟨gi,k*2+1,none⟩=some (.int .i64 s2)) (first|exact HC2.out _ HY1D.out|exact HC2.out _ HY2.out) (first|(go_at_call 144;(with_reducible refine(qui HS HX1D HB HL HR).mono ?_);rintro e w2 ⟨rfl,hb⟩;have HY2:=zj HY1D hb;clear hb))
  rename_i hHeld;clear hHeld;have HX2:Hid (Below B w w2):=zH (HX1.out.trans (HY2.out.mono (by have:=HX1.out.size;have:=HB.out;omega)));have HV2:Hid (Below wr.heap.size wr w2):=zH (HYA.out.trans (HY2.out.mono HYA.out.size));cases r;rotate_left
  ·have HSKIP:Hid (qK sup y.stack st (k+1)=qK sup y.stack st k):=zH (qlu sup HLN.out.symm hk1 hk2 (by rw[HTK.out,HSK.out];exact HR.out));go_wp2_with fail
   go_roundw;case rel=>exact⟨k+1,gr,by omega,by go_num,rfl,zH (by rw[HSKIP.out];exact HOk.out.keep HV2.out),HX2,zH (HSB.out.more HX.out.size HV2.out),zH (q1k zc.keeps HST.out HV2.out),zH (fun i h1 h2 h=>by
     rcases Xk i k with q|q
     ·exact HZN.out i h1 h2 q
     ·obtain rfl:i=k:=by omega
      rw[HTK.out,HSK.out];exact qoz HR.out HF.out.1 h1 HSK.out),zH (fun e i h1 h2 h=>by
     rcases Xk i k with q|q
     ·exact HG0.out e i h1 h2 q
     ·obtain rfl:i=k:=by omega
      rw[HTK.out,HSK.out];exact HR.out),HG1⟩
   case measure=>simp[intOf];omega
  have HD2:=zH (HC2.out _ HY2.out);have HKA:Hid (∀W,Below w2.heap.size w2 W→(fun w'=>w'.cell? ⟨g,tg*2+1,none⟩=some (.slice (some ⟨gi,0,none⟩) n y.c)∧w'.cell? ⟨wr.heap.size,0,none⟩=some (.int .i64 t1)∧w'.cell? ⟨wr.heap.size,1,none⟩=some (.int .i64 t2)) W):=zH (fun W hW=>by
   obtain⟨d0,d1,d2,d3,d4⟩:=HC2.out _ (HY2.out.trans (hW.mono HY2.out.size));exact⟨d0,d1,d2⟩)
  have HFR:Hid (∀W,Below w2.heap.size w2 W→W.cell? ⟨gi,k*2,none⟩=some (.int .i64 s1)∧W.cell? ⟨gi,k*2+1,none⟩=some (.int .i64 s2)∧W.frozen? ⟨gi,k*2,none⟩=false∧W.frozen? ⟨gi,k*2+1,none⟩=false):=zH (fun W hW=>by
   obtain⟨d0,d1,d2,d3,d4⟩:=HC2.out _ (HY2.out.trans (hW.mono HY2.out.size));have hwh:=HWH.out.keep (HV2.out.trans (hW.mono HV2.out.size)) HWH.out.lt;exact⟨d3,d4,hwh.free _,hwh.free _⟩)
  have hggi:g≠gi:=fun e=>by
   have h1:=HOk.out.out.blk;have h2:=HWH.out;rw[←e]at h2;exact q4s h1 h2
  have hngi:wr.heap.size≠gi:=by omega
  have HGG:=zH (And.intro hggi hngi);have HKT:Hid (∀(W:World) (j:Int×Int),Below w2.heap.size w2 W→(fun w'=>w'.cell? ⟨g,tg*2+1,none⟩=some (.slice (some ⟨gi,0,none⟩) n y.c)∧w'.cell? ⟨wr.heap.size,0,none⟩=some (.int .i64 t1)∧w'.cell? ⟨wr.heap.size,1,none⟩=some (.int .i64 t2)) ((W.setCell ⟨gi,k*2,none⟩ (.int .i64 j.1)).setCell ⟨gi,k*2+1,none⟩ (.int .i64 j.2))):=zH (fun W j hW=>by
   obtain⟨d0,d1,d2⟩:=HKA.out W hW;exact⟨(q11 W gi k j ⟨g,tg*2+1,none⟩ HGG.out.1).trans d0,(q11 W gi k j ⟨wr.heap.size,0,none⟩ HGG.out.2).trans d1,(q11 W gi k j ⟨wr.heap.size,1,none⟩ HGG.out.2).trans d2⟩)
  obtain⟨⟨j1,j2⟩,hj⟩:∃j,qB sup s1 s2 t1 t2=j:=⟨_,rfl⟩
  have HJ:=zH hj;clear hj hggi hngi;obtain⟨d0,d1,d2,d3,d4⟩:=HD2.out;have HX2D:Hid (Below B w w2.drew):=zH HX2.out.drew;have HY2D:Hid (Below w2.heap.size w2 w2.drew):=zH (zb _ _).drew;go_wp2_with fail
  refine wp_region_noPanic ?_;refine wp_region_held_drew (S:=(fun w'=>w'.cell? ⟨g,tg*2+1,none⟩=some (.slice (some ⟨gi,0,none⟩) n y.c)∧w'.cell? ⟨wr.heap.size,0,none⟩=some (.int .i64 t1)∧w'.cell? ⟨wr.heap.size,1,none⟩=some (.int .i64 t2))) (by kernel_rfl) (HKA.out _ HY2D.out) (fun hHeld=> ?_);refine mT 0 (h:=mT 1 (h:=mT 2 (h:=mT 3 (h:=mT 4 (h:=mT 5 (h:=mT 6 (h:=mT 7 (h:= ?_))))))));refine mT 8 (h:=mT 9 (h:=mT 10 (h:=mT 11 (h:=mT 13 (h:= ?_)))));refine wpAnyH_ready (rs:=[12]) (by kernel_rfl) (by simp) ?_;refine AllReadyH.cons (o:=_) rfl (fun K hK=> ?_) AllReadyH.nil;go_simp;refine hK.out _ _ hHeld (fun hHeld=> ?_);clear hK K;try simp only[sA,sB,sC,Act.put,sD,sE,sF]
  refine wpAnyH_ready (rs:=[14]) (by kernel_rfl) (by simp) ?_;refine AllReadyH.cons (o:=_) rfl (fun K hK=> ?_) AllReadyH.nil;go_simp;(go_at_call 145;(with_reducible refine(qrj HS HX2D HB HL HJ).mono ?_);rintro e w3 ⟨rfl,hb⟩;have HY3:=zj HY2D hb;clear hb;obtain⟨z0,z1,z2,z3⟩:=HFR.out _ HY3.out)
  refine hK.out _ _ (HKA.out _ HY3.out) (fun hHeld=> ?_);clear hK K;try simp only[sA,sB,sC,Act.put,sD,sE,sF]
  refine mT 15 (h:= ?_);refine wpAnyH_ready (rs:=[16]) (by kernel_rfl) (by simp) ?_;refine AllReadyH.cons (o:=_) rfl (fun K hK=> ?_) AllReadyH.nil;go_simp;refine hK.out _ _ (HKT.out _ (j1,j2) HY3.out) (fun hHeld=> ?_);clear hK K;try simp only[sA,sB,sC,Act.put,sD,sE,sF]
  refine wpAnyH_done (by kernel_rfl) ?_ _;refine NoPanic.normal ?_;clear hHeld;have HJZ:Hid (jh sup (s1,s2) (t1,t2)=(j1,j2)):=zH (by
   unfold jh;rw[Xa (show ¬zA sup (t1,t2).1 (t1,t2).2 (s1,s2).1 (s1,s2).2=true by rw[show zA sup (t1,t2).1 (t1,t2).2 (s1,s2).1 (s1,s2).2=false from HR.out];decide)];exact HJ.out)
  have HNE:Hid (y.stack≠ []):=zH (fun q=>by rw[q]at hk1;simp at hk1);have HV3:=zH (HV2.out.trans (HY3.out.mono HV2.out.size));have HO4:Hid (jR ((w3.setCell ⟨gi,k*2,none⟩ (.int .i64 j1)).setCell ⟨gi,k*2+1,none⟩ (.int .i64 j2)) B g (X.set tg ⟨true,y.A,y.c,qK sup y.stack st (k+1)⟩)):=zH (by
   have h3:=HOk.out.keep HV3.out;have h4:=h3.turn (i:=tg) (gi:=gi) (k:=k) (t:=(j1,j2)) htX (List.getElem_set_self htX) (by show k<(qK sup y.stack st k).length;rw[Qv];exact hk1) HEY.out;rw[List.set_set]at h4;have e:=qaa sup HLN.out.symm hk1 hk2;rw[HTK.out,HSK.out,HJZ.out]at e;rw[e];exact h4)
  have HX4:Hid (Below B w ((w3.setCell ⟨gi,k*2,none⟩ (.int .i64 j1)).setCell ⟨gi,k*2+1,none⟩ (.int .i64 j2))):=zH (((HX.out.trans (HV3.out.mono (Xd HB.out HX.out.size))).setCell (p:=⟨gi,k*2,none⟩) HBG.out _).setCell (p:=⟨gi,k*2+1,none⟩) HBG.out _);have HSB4:Hid (vk g y w ((w3.setCell ⟨gi,k*2,none⟩ (.int .i64 j1)).setCell ⟨gi,k*2+1,none⟩ (.int .i64 j2))):=zH ((HSB.out.more HX.out.size HV3.out).turn (gi:=gi) (k:=k) (t:=(j1,j2)) HSE.out HNE.out HEY.out);have HST4:Hid (ze zc 2 ((w3.setCell ⟨gi,k*2,none⟩ (.int .i64 j1)).setCell ⟨gi,k*2+1,none⟩ (.int .i64 j2)) ((w3.setCell ⟨gi,k*2,none⟩ (.int .i64 j1)).setCell ⟨gi,k*2+1,none⟩ (.int .i64 j2)).heap.size (some ad) c st):=zH (q1a (g:=gi) (q1k zc.keeps HST.out HV3.out) (by simp) (q11 w3 gi k (j1,j2)) (fun i hi ad' ea=>HAP.out ad' _ ea HEY.out HSE.out HNE.out (fun q=>by rw[q]at hk2;simp at hk2)));have hcell:((w3.setCell ⟨gi,k*2,none⟩ (.int .i64 j1)).setCell ⟨gi,k*2+1,none⟩ (.int .i64 j2)).cell? ⟨g,tg*2+1,none⟩=some (.slice (some ⟨gi,0,none⟩) n y.c)∧((w3.setCell ⟨gi,k*2,none⟩ (.int .i64 j1)).setCell ⟨gi,k*2+1,none⟩ (.int .i64 j2)).cell? ⟨gi,k*2,none⟩=some (.int .i64 j1)∧((w3.setCell ⟨gi,k*2,none⟩ (.int .i64 j1)).setCell ⟨gi,k*2+1,none⟩ (.int .i64 j2)).cell? ⟨gi,k*2+1,none⟩=some (.int .i64 j2):=by
   have h5:tg<(X.set tg ⟨true,y.A,y.c,qK sup y.stack st (k+1)⟩:List zr).length:=by rw[XI];exact hto
   have h6:(X.set tg ⟨true,y.A,y.c,qK sup y.stack st (k+1)⟩:List zr)[tg]=⟨true,y.A,y.c,qK sup y.stack st (k+1)⟩:=List.getElem_set_self h5;have h7:k<(qK sup y.stack st (k+1)).length:=by rw[Qv];exact hk1
   have h8:(qK sup y.stack st (k+1))[k]=(j1,j2):=by
    have:=VT sup y.stack st (k+1) k hk1 hk2;rw[Xb (Nat.lt_succ_self _),Xc h7,HTK.out,HSK.out,HJZ.out]at this;exact Option.some.inj this
   obtain⟨gi',rest',ea,_,hwh⟩:=HO4.out.own tg h5 (by rw[h6];intro q;rw[show qK sup y.stack st (k+1)=[]from q]at h7;simp at h7);rw[h6]at ea hwh;dsimp only at ea hwh;rw[HEY.out]at ea;injection ea with ea;injection ea with ea;rw[←ea]at hwh;obtain⟨a1,a2⟩:=st_at hwh h7;rw[h8]at a1 a2;exact⟨(HKT.out w3 (j1,j2) HY3.out).1,a1,a2⟩
  obtain⟨x1,x2,x3⟩:=hcell;clear z0 z1 z2 z3 d0 d1 d2 d3 d4;generalize((w3.setCell ⟨gi,k*2,none⟩ (.int .i64 j1)).setCell ⟨gi,k*2+1,none⟩ (.int .i64 j2))=w4 at*
  by_cases hz:j1=0
  ·have hz2:(j1,j2)=((0,0):Int×Int):=by
    have e:=qbo (sup:=sup) (k:=s1) (n:=s2) (k':=t1) (n':=t2) (by rw[HJ.out];exact hz);rw[HJ.out]at e;exact e
   obtain⟨rfl,rfl⟩:j1=0∧j2=0:=by simpa using hz2
   clear hz hz2;go_wp2_with fail
   go_ret2
   exact q8v HX4.out HSB4.out (qqd (sup:=sup) (s:=y.shp) (i:=k) HSE.out hk1 hk2 HF.out.1 HF.out.2 (by
    show(jh sup y.stack[k] st[k]).1=0;rw[HTK.out,HSK.out,HJZ.out]))
  have HZ:=zH hz;go_wp2_with fail
  go_roundw;case rel=>exact⟨k+1,true,by omega,by go_num,rfl,HO4,HX4,HSB4,HST4,zH (fun i h1 h2 h=>by
    rcases Xk i k with q|q
    ·exact HZN.out i h1 h2 q
    ·obtain rfl:i=k:=by omega
     rw[HTK.out,HSK.out,HJZ.out];exact HZ.out),zH (fun e=>by cases e),zH (fun _=>⟨k,hk1,hk2,by rw[HTK.out,HSK.out,show zA sup (t1,t2).1 (t1,t2).2 (s1,s2).1 (s1,s2).2=false from HR.out];decide⟩)⟩
  case measure=>simp[intOf];omega
def Yu(g:Nat)(X:List zr)(w:World)(A:Option Addr):Prop:=∀ad,A=some ad→ad.block<w.heap.size∧ad.block≠g∧∀i (hi:i<X.length),X[i].stack≠ []→∀ax,X[i].A=some ax→ax.block≠ad.block
structure ZS(m:za)(f B g nC R:Nat)(w1:World)(X:List zr)(w:World):Prop where
 len:X.length=nC
 rank:kf (zz m.classes).length (X.map zr.shp)≤R
 own:jR w B g X
 low:vD m (f:Int) (X.map zr.shp)
 below:Below B w1 w
 flat:∀s ∈X.map zr.shp,vy s.stack∧(s.seen=false→s.stack=[])
theorem ZS.keep{m:za}{f B g nC R:Nat}{w1 w w':World}{X:List zr}(h:ZS m f B g nC R w1 X w)(hB:B≤w1.heap.size)(hb:Below w.heap.size w w'):ZS m f B g nC R w1 X w':=
 ⟨h.len,h.rank,h.own.keep hb,h.low,h.below.trans (hb.mono (Xd hB h.below.size)),h.flat⟩
theorem ZS.lower{m:za}{f B g nC R R':Nat}{w1 w:World}{X:List zr}(h:ZS m f B g nC R w1 X w)(hr:kf (zz m.classes).length (X.map zr.shp)≤R'):ZS m f B g nC R' w1 X w:=⟨h.len,hr,h.own,h.low,h.below,h.flat⟩
structure js(m:za)(f B g nC R p q:Nat)(w1:World)(st L:List (Int×Int))(NL:List Int)(A7 A8:Option Addr)(c7 c8:Nat)(X:List zr)(w:World):Prop where
 inv:ZS m f B g nC R w1 X w
 here:zt (X.map zr.shp) (p:Int)=⟨true,st⟩
 back:∀p':Nat,p'<p→kR m (f:Int) (X.map zr.shp) (p':Int)=true
 on:∀n ∈NL.take q,(zt (X.map zr.shp) n).seen=true∧zG (zz m.classes) L (zt (X.map zr.shp) n).stack
 ty:ze zc 2 w w.heap.size A7 c7 L
 nx:ze zl 1 w w.heap.size A8 c8 NL
 far7:L≠ []→Yu g X w A7
 far8:NL≠ []→Yu g X w A8
structure Jp(m:za)(f p nC:Nat)(st L:List (Int×Int))(NL:List Int):Prop where
 eq:zR m (f:Int) (p:Int) st=⟨L,NL,0⟩
 few:L.length≤8
 next:∀n ∈NL,0≤n∧n<(nC:Int)
theorem q8i{m:za}{x:zh}{f p:Nat}{st L:List (Int×Int)}{NL:List Int}(hm:zN m)(hx:m.methods[f]? =some x)(hp:p<x.code.length)(h:zR m (f:Int) (p:Int) st=⟨L,NL,0⟩):Jp m f p x.code.length st L NL:=by
 obtain⟨⟨op,a,bb⟩,hi⟩:∃i,x.code[p]? =some i:=⟨_,Xc hp⟩
 have hxm:=hm.method (Xs hx);have him:=Xs hi;have e1:=q14 (st:=st) hx hi;rw[h]at e1;have h1:=q6y (m:=m) (st:=st) (F:=0) (hxm.fits.ct _ him) (hxm.co _ him) (by rw[←e1]);have h2:=qh0 (m:=m) (x:=x) (pc:=(p:Int)) (op:=op) (a:=a) (b:=bb) (st:=st) (by rw[←e1]);rw[←e1]at h1 h2;exact⟨h,h2.2,h1⟩
theorem Yu.more{g:Nat}{X:List zr}{w w':World}{A:Option Addr}(h:Yu g X w A)(hz:w.heap.size≤w'.heap.size):Yu g X w' A:=fun ad e=>by
 obtain⟨h1,h2,h3⟩:=h ad e;exact⟨Xj h1 hz,h2,h3⟩
theorem js.keep{m:za}{f B g nC R p q:Nat}{w1 w w':World}{st L:List (Int×Int)}{NL:List Int}{A7 A8:Option Addr}{c7 c8:Nat}{X:List zr}(h:js m f B g nC R p q w1 st L NL A7 A8 c7 c8 X w)(hB:B≤w1.heap.size)(hb:Below w.heap.size w w'):js m f B g nC R p q w1 st L NL A7 A8 c7 c8 X w':=
 ⟨h.inv.keep hB hb,h.here,h.back,h.on,q1k zc.keeps h.ty hb,q1k zl.keeps h.nx hb,fun e=>(h.far7 e).more hb.size,fun e=>(h.far8 e).more hb.size⟩
theorem qsf{m:za}{f B g nC R p:Nat}{w1 w w':World}{st L:List (Int×Int)}{NL:List Int}{A7 A8:Option Addr}{c7 c8:Nat}{X:List zr}(h:ZS m f B g nC R w1 X w)(hB:B≤w1.heap.size)(hb:Below w.heap.size w w')(hh:zt (X.map zr.shp) (p:Int)=⟨true,st⟩)
  (hk:∀p':Nat,p'<p→kR m (f:Int) (X.map zr.shp) (p':Int)=true) (h7:ze zc 2 w' w'.heap.size A7 c7 L) (h8:ze zl 1 w' w'.heap.size A8 c8 NL) (n7:∀ad,A7=some ad→w.heap.size≤ad.block) (n8:∀ad,A8=some ad→w.heap.size≤ad.block):
  js m f B g nC R p 0 w1 st L NL A7 A8 c7 c8 X w':=by
 have hg:=h.own.out.blk.lt;have hX:∀i (hi:i<X.length),X[i].stack≠ []→∀ax,X[i].A=some ax→ax.block<w.heap.size:=fun i hi q ax e=>by
  obtain⟨gi,e1,h1⟩:=(h.own.own i hi q).lt;rw[e1]at e;injection e with e;subst e;exact h1
 refine⟨h.keep hB hb,hh,hk,fun n hn=>by simp at hn,h7,h8,fun q ad e=> ?_,fun q ad e=> ?_⟩
 ·have:=n7 ad e;have hl:0<L.length:=by
   cases L with
   |nil=>exact absurd rfl q
   |cons=>simp
  obtain⟨ad',e',hb',_⟩:=h7.row.at_ hl;rw[e]at e';injection e' with e';subst e';exact⟨hb',by omega,fun i hi q2 ax e2=>by have:=hX i hi q2 ax e2;omega⟩
 ·have:=n8 ad e;have hl:0<NL.length:=by
   cases NL with
   |nil=>exact absurd rfl q
   |cons=>simp
  obtain⟨ad',e',hb',_⟩:=h8.row.at_ hl;rw[e]at e';injection e' with e';subst e';exact⟨hb',by omega,fun i hi q2 ax e2=>by have:=hX i hi q2 ax e2;omega⟩
theorem qfj{m:za}{f pc:Int}{st:List (Int×Int)}(he:¬(zR m f pc st).err=0){n:Int}(hn:n ∈(zR m f pc st).next):0≤n:=by
 have hb:∀k,¬n ∈(jf k).next:=fun k h=>by simp[jf]at h
 unfold zR at he hn;by_cases g:0≤f∧f<m.methods.length∧0≤pc∧pc<(zw m f).code.length
 ·rw[Xb g]at he hn;cases hi:(zw m f).code[pc.toNat]? with
  |none=>
   rw[hi]at hn;exact absurd hn (hb _)
  |some i=>
   rw[hi]at he hn;obtain⟨op,a,b⟩:=i;dsimp only at he hn;unfold qX at he hn;by_cases h1:(qU pc op a).head?.any (fun n=>decide (((zw m f).code.length:Int)≤n))=true
   ·rw[Xb h1]at hn;exact absurd hn (hb _)
   rw[Xa h1]at he hn;by_cases h2:(op=6∧st=[])∨st.length<(takes m (zw m f) op a b st).length∨8<st.length - (takes m (zw m f) op a b st).length+(kI m (zw m f) op a b st).length
   ·rw[Xb h2]at hn;exact absurd hn (hb _)
   rw[Xa h2]at he hn;by_cases h3:((st.drop (st.length - (takes m (zw m f) op a b st).length)).zip (takes m (zw m f) op a b st)).all (fun p=>Zf (zz m.classes) op p.1 p.2)=true
   ·rw[Xb h3]at he;exact absurd rfl he
   ·rw[Xa h3]at hn;exact absurd hn (hb _)
 ·rw[Xa g]at hn;exact absurd hn (hb _)
section
variable{m:za}{f B g nC R p q tg:Nat}{w1 w w':World}{st L:List (Int×Int)}{NL:List Int}{A7 A8:Option Addr}{c7 c8:Nat}{X:List zr}
theorem js.seen(h:js m f B g nC R p q w1 st L NL A7 A8 c7 c8 X w)(hs:Jp m f p nC st L NL):(zt (X.map zr.shp) (p:Int)).seen=true∧zR m (f:Int) (p:Int) (zt (X.map zr.shp) (p:Int)).stack=⟨L,NL,0⟩:=by
 rw[h.here];exact⟨rfl,hs.eq⟩
theorem js.fitsL(h:js m f B g nC R p q w1 st L NL A7 A8 c7 c8 X w)(hm:zN m)(hs:Jp m f p nC st L NL)(hp:p<nC):zG (zz m.classes) L L:=by
 have hself:=h.inv.low.self _ (VX (S:=X.map zr.shp) (i:=p) (by rw[Xo,h.inv.len];exact hp));rw[h.here]at hself;have:=(q4f (f:=(f:Int)) (pc:=(p:Int)) hm hself (by show(zR m (f:Int) (p:Int) st).err=0;rw[hs.eq])).2.2;rw[show zR m (f:Int) (p:Int) ({seen:=true,stack:=st}:zo).stack=⟨L,NL,0⟩from hs.eq]at this;exact this
theorem js.bad(h:js m f B g nC R p q w1 st L NL A7 A8 c7 c8 X w)(hm:zN m)(hs:Jp m f p nC st L NL)(hp:p<nC)(htg:tg<X.length)(hn:(tg:Int) ∈NL)(hc:q0b (zz m.classes) X[tg].shp L):∀Q,vv m (f:Int) Q=false:=by
 obtain⟨h1,h2⟩:=h.seen hs;exact h.inv.low.none_come (pc:=p) (q:=tg) hm (by rw[Xo,h.inv.len];exact hp) (by rw[Xo];exact htg) h1 (by rw[h2];exact hn) (by rw[h2,q1d htg];exact hc)
theorem js.come(h:js m f B g nC R p q w1 st L NL A7 A8 c7 c8 X w)(hB:B≤w1.heap.size)(hm:zN m)(hs:Jp m f p nC st L NL)(hp:p<nC)(htg:tg<X.length)(hn:(tg:Int) ∈NL){x':zr}{gr:Bool}(hx:x'.seen=true)(hb:Below B w w')(ho:jR w' B g (X.set tg x'))(hc:kE (zz m.classes) X[tg].shp L x'.stack gr):
  ∃S',(X.set tg x').map zr.shp=S'∧S'=(X.map zr.shp).set tg ⟨true,x'.stack⟩∧(gr=true→kf (zz m.classes).length S'<R)∧(gr=false→S'=X.map zr.shp)∧ZS m f B g nC R w1 (X.set tg x') w':=by
 obtain⟨h1,h2⟩:=h.seen hs;have e:(X.set tg x').map zr.shp=(X.map zr.shp).set tg ⟨true,x'.stack⟩:=by
  rw[List.map_set];unfold zr.shp;rw[hx]
 have htm:tg<(X.map zr.shp).length:=by rw[Xo];exact htg
 have hc':kE (zz m.classes) (zt (X.map zr.shp) (tg:Int)) L x'.stack gr:=by rw[q1d htg];exact hc
 have hrk:gr=true→kf (zz m.classes).length ((X.map zr.shp).set tg ⟨true,x'.stack⟩)<R:=fun g=>by
  subst g;exact Xj (qqf htm hc' hs.few) h.inv.rank
 have hsm:gr=false→(X.map zr.shp).set tg ⟨true,x'.stack⟩=X.map zr.shp:=fun g=>by
  subst g;exact qqb htm hc'
 refine⟨_,e,rfl,hrk,hsm,by rw[XI];exact h.inv.len,?_,ho,?_,h.inv.below.trans hb,?_⟩
 ·rw[e];cases gr
  ·rw[hsm rfl];exact h.inv.rank
  ·exact Xh (hrk rfl)
 ·rw[e];have:=h.inv.low.put (pc:=p) (q:=tg) (J:=x'.stack) (gr:=gr) hm (by rw[Xo,h.inv.len];exact hp) htm h1 (by rw[h2];exact hn) (by rw[h2];exact hc') (by rw[h2];exact hs.few);exact this
 ·rw[e];intro s hs';rcases X9 hs' with q|q
  ·exact h.inv.flat s q
  ·rw[q];have hp':p<(X.map zr.shp).length:=by rw[Xo,h.inv.len];exact hp
   have n1:=(h.inv.flat _ (VX hp')).1;rw[h.here]at n1;have n2:=qar (f:=(f:Int)) (pc:=(p:Int)) hm n1 (by show(zR m (f:Int) (p:Int) st).err=0;rw[hs.eq]);rw[show zR m (f:Int) (p:Int) ({seen:=true,stack:=st}:zo).stack=⟨L,NL,0⟩from hs.eq]at n2;exact⟨hc'.null (fun _=>(h.inv.flat _ (VX htm)).1) n2,fun z=>by cases z⟩
theorem js.far{A:Option Addr}(h:Yu g X w A)(hz:w.heap.size≤w'.heap.size)(htg:tg<X.length){x':zr}{gr:Bool}(hc:kE (zz m.classes) X[tg].shp L x'.stack gr)(h1:X[tg].seen=true→x'.A=X[tg].A)(h2:X[tg].seen=false→x'.stack≠ []→∀ad,x'.A=some ad→w.heap.size≤ad.block):Yu g (X.set tg x') w' A:=fun ad e=>by
 obtain⟨a1,a2,a3⟩:=h ad e;refine⟨Xj a1 hz,a2,fun i hi q ax ea=> ?_⟩;rw[Vi htg hi]at q ea;by_cases ei:tg=i
 ·rw[Xb ei]at q ea;cases hse:X[tg].seen
  ·have:=h2 hse q ax ea;omega
  ·rw[h1 hse]at ea;have hne:X[tg].stack≠ []:=fun z=>by
    have:=(hc.old hse).1;have z':X[tg].shp.stack=[]:=z;rw[z']at this;exact q (X6 this.symm)
   exact a3 tg htg hne ax ea
 ·rw[Xa ei]at q ea;exact a3 i _ q ax ea
theorem js.block{A:Option Addr}(h:Yu g X w A)(htg:tg<X.length)(hsb:vk g X[tg] w w'):∀ad,A=some ad→w'.heap[ad.block]? =w.heap[ad.block]? :=fun ad e=>by
 obtain⟨a1,a2,a3⟩:=h ad e;exact hsb _ a1 a2 (fun _ q ax ea=>a3 tg htg q ax ea)
theorem js.step(h:js m f B g nC R p q w1 st L NL A7 A8 c7 c8 X w)(hB:B≤w1.heap.size)(hm:zN m)(hs:Jp m f p nC st L NL)(hp:p<nC)(hq:q<NL.length)(htn:NL[q]=(tg:Int))(htg:tg<X.length){x':zr}{gr:Bool}(hx:x'.seen=true)(hb:Below B w w')(hsb:vk g X[tg] w w')
  (ho:jR w' B g (X.set tg x')) (hc:kE (zz m.classes) X[tg].shp L x'.stack gr) (h1:X[tg].seen=true→x'.A=X[tg].A) (h2:X[tg].seen=false→x'.stack≠ []→∀ad,x'.A=some ad→w.heap.size≤ad.block) (hgr:gr=true→p<tg):
  js m f B g nC R p (q+1) w1 st L NL A7 A8 c7 c8 (X.set tg x') w':=by
 have hn:(tg:Int) ∈NL:=by rw[←htn];exact Xf hq
 obtain⟨S',e1,e2,_,e4,hinv⟩:=h.come hB hm hs hp htg hn hx hb ho hc;have htm:tg<(X.map zr.shp).length:=by rw[Xo];exact htg
 have hc':kE (zz m.classes) (zt (X.map zr.shp) (tg:Int)) L x'.stack gr:=by rw[q1d htg];exact hc
 have hset:∀i:Nat,zt ((X.map zr.shp).set tg ⟨true,x'.stack⟩) (i:Int)=if i=tg then⟨true,x'.stack⟩else zt (X.map zr.shp) (i:Int):=fun i=>q1c htm
 have hpm:p<(X.map zr.shp).length:=by rw[Xo,h.inv.len];exact hp
 have hup:∀n ∈NL,(zt (X.map zr.shp) n).seen=true→zG (zz m.classes) L (zt (X.map zr.shp) n).stack→(zt ((X.map zr.shp).set tg ⟨true,x'.stack⟩) n).seen=true∧zG (zz m.classes) L (zt ((X.map zr.shp).set tg ⟨true,x'.stack⟩) n).stack:=fun n hnm g1 g2=>by
  obtain⟨k,rfl⟩:=Xq (hs.next n hnm).1;rw[hset];by_cases ek:k=tg
  ·rw[Xb ek];exact⟨rfl,hc.up⟩
  ·rw[Xa ek];exact⟨g1,g2⟩
 refine⟨hinv,?_,fun p' hp'=> ?_,fun n hnm=> ?_,?_,?_,fun z=>js.far (h.far7 z) hb.size htg hc h1 h2,fun z=>js.far (h.far8 z) hb.size htg hc h1 h2⟩
 ·rw[e1];cases gr
  ·rw[e4 rfl];exact h.here
  ·have:=hgr rfl;rw[e2,hset,Xa (by omega)];exact h.here
 ·rw[e1];cases gr
  ·rw[e4 rfl];exact h.back p' hp'
  ·have:=hgr rfl;rw[e2];exact qo4 htm (by omega) (h.back p' hp') (fun n hnn=>by
    have hpl:=h.inv.low.len;by_cases he:(zR m (f:Int) (p':Int) (zt (X.map zr.shp) (p':Int)).stack).err=0
    ·have hF:p'<(zw m (f:Int)).code.length:=by rw[←hpl];omega
     by_cases hfm:f<m.methods.length
     ·have hx':m.methods[f]? =some m.methods[f]:=Xc hfm;have e5:zw m (f:Int)=m.methods[f]:=by unfold zw;rw[Xi,hx'];rfl
      rw[e5]at hF;obtain⟨LL,NN,er,e6⟩:∃LL NN er,zR m (f:Int) (p':Int) (zt (X.map zr.shp) (p':Int)).stack=⟨LL,NN,er⟩:=⟨_,_,_,rfl⟩
      rw[e6]at he hnn;dsimp only at he hnn;subst he;exact((q8i hm hx' hF e6).next n hnn).1
     ·unfold zR at hnn;rw[Xa (by omega)]at hnn;simp[jf]at hnn
    ·have hbk:=h.back p' hp';by_cases hse:(zt (X.map zr.shp) (p':Int)).seen=true
     ·exact absurd ((q2w.mp hbk) hse).1 he
     ·exact qfj he hnn) hc'
 ·rw[List.take_succ_eq_append_getElem hq]at hnm;have hmem:n ∈NL:=by
   rcases Xn.mp hnm with z|z
   ·exact List.mem_of_mem_take z
   ·rw[XL.mp z];exact Xf hq
  rw[e1,e2];rcases Xn.mp hnm with z|z
  ·obtain⟨g1,g2⟩:=h.on n z;exact hup n hmem g1 g2
  ·rw[XL.mp z,htn,hset,Xb rfl];exact⟨rfl,hc.up⟩
 ·by_cases z:L=[]
  ·subst z;have:=h.ty;exact⟨this.le,this.cap,fun i t hi=>by simp at hi⟩
  ·exact quh h.ty hb.size (js.block (h.far7 z) htg hsb)
 ·by_cases z:NL=[]
  ·subst z;have:=h.nx;exact⟨this.le,this.cap,fun i t hi=>by simp at hi⟩
  ·exact qsw h.nx hb.size (js.block (h.far8 z) htg hsb)
theorem js.place(h:js m f B g nC R p NL.length w1 st L NL A7 A8 c7 c8 X w)(hs:Jp m f p nC st L NL):∀p':Nat,p'<p+1→kR m (f:Int) (X.map zr.shp) (p':Int)=true:=fun p' hp'=>by
 rcases Xk p' p with z|z
 ·exact h.back p' z
 ·obtain rfl:p'=p:=by omega
  obtain⟨_,h2⟩:=h.seen hs;rw[q2w,h2];intro _;have:=h.on;rw[XU]at this;exact⟨rfl,this⟩
end
theorem ftk_4(m:za)(x:zh)(f:Nat)(a b:Int)(hx:m.methods[f]? =some x)(ha:a≤9223372036854775807)(h:zi)(w:World)(H:zm w w.heap.size h m):
  Calls Tryz.prog 138 #[zp h m,zF 4 a b,.int .i64 f] w (qm (zE m x 4 a b) w):=by
 have e1:zE m x 4 a b=[qM x a]:=by simp[zE]
 rw[e1];clear e1;obtain⟨t,ht⟩:∃t,qM x a=t:=⟨_,rfl⟩
 have HT:=zH ht;rw[ht];clear ht;obtain⟨hw,hp⟩:=qH h m 4 a b w;have HW:=zH hw;have HP:=zH hp;have HI:=zH (H.now hw);clear hw hp H;go_enter Tryz.func138,Tryz.ntmps138;go_upto_region 1 with fail
 change Code.wp _ _ _ _ (qu h m 4 a b w);go_upto_region 2 with(go_at_call 171;(refine(qI (h:=h) (m:=m) (w:=w)).mono ?_);rintro e w2 ⟨rfl,rfl⟩)
 generalize qz h m 4 a b w=w2 at*
 have HX:Hid (Below w2.heap.size w2 w2):=zH (zb _ _);have HN:=zH HP.out.fnlt;have HC:=zH HP.out.fn;obtain⟨q0,q1,q2,q3,q4,q5,q6⟩:=HP.out.img;obtain⟨o0,o1,o2⟩:=qw HP.out.ins;go_wp2_with(go_at_call 172;(with_reducible refine(qc1 HI HX hx ha HT).mono ?_);rintro e w3 ⟨rfl,hb⟩;have HX3:=zH hb;clear hb)
 go_ret;exact⟨_,_,rfl,Vk (by simp) (by go_simp) (by go_simp),HW.out.trans ((HX3.out.alloc HX3.out.size _).mono HW.out.size)⟩
theorem ftk_30(m:za)(x:zh)(f:Nat)(j:Nat)(b:Int)(t:Int×Int)(hs:m.statics[j]? =some t)(h:zi)(w:World)(H:zm w w.heap.size h m):
  Calls Tryz.prog 138 #[zp h m,zF 30 (j:Int) b,.int .i64 f] w (qm (zE m x 30 (j:Int) b) w):=by
 have e0:Jr m (j:Int)=t:=by unfold Jr;rw[Xi,hs];rfl
 have e1:zE m x 30 (j:Int) b=[t]:=by simp[zE,e0]
 rw[e1];clear e1;have HS:=zH hs;clear hs e0;obtain⟨hw,hp⟩:=qH h m 30 (j:Int) b w;have HW:=zH hw;have HP:=zH hp;have HI:=zH (H.now hw);clear hw hp H;go_enter Tryz.func138,Tryz.ntmps138;go_upto_region 1 with fail
 change Code.wp _ _ _ _ (qu h m 30 (j:Int) b w);go_upto_region 2 with(go_at_call 171;(refine(qI (h:=h) (m:=m) (w:=w)).mono ?_);rintro e w2 ⟨rfl,rfl⟩)
 generalize qz h m 30 (j:Int) b w=w2 at*
 have HX:Hid (Below w2.heap.size w2 w2):=zH (zb _ _);have HN:=zH HP.out.fnlt;have HC:=zH HP.out.fn;obtain⟨q0,q1,q2,q3,q4,q5,q6⟩:=HP.out.img;obtain⟨o0,o1,o2⟩:=qw HP.out.ins;go_wp2_with(go_at_call 174;(with_reducible refine(qa0 HI HX HS).mono ?_);rintro e w3 ⟨rfl,hb⟩;have HX3:=zH hb;clear hb)
 go_ret;exact⟨_,_,rfl,Vk (by simp) (by go_simp) (by go_simp),HW.out.trans ((HX3.out.alloc HX3.out.size _).mono HW.out.size)⟩
theorem ftk_31(m:za)(x:zh)(f:Nat)(j:Nat)(b:Int)(y:zh)(hy:m.methods[j]? =some y)(h:zi)(w:World)(H:zm w w.heap.size h m):
  Calls Tryz.prog 138 #[zp h m,zF 31 (j:Int) b,.int .i64 f] w (qm (zE m x 31 (j:Int) b) w):=by
 have e0:zw m (j:Int)=y:=by unfold zw;rw[Xi,hy];rfl
 have e1:zE m x 31 (j:Int) b=y.args:=by simp[zE,e0]
 rw[e1];clear e1;clear e0;obtain⟨hw,hp⟩:=qH h m 31 (j:Int) b w;have HW:=zH hw;have HP:=zH hp;have HI:=zH (H.now hw);clear hw hp H;go_enter Tryz.func138,Tryz.ntmps138;go_upto_region 1 with fail
 change Code.wp _ _ _ _ (qu h m 31 (j:Int) b w);go_upto_region 2 with(go_at_call 171;(refine(qI (h:=h) (m:=m) (w:=w)).mono ?_);rintro e w2 ⟨rfl,rfl⟩)
 generalize qz h m 31 (j:Int) b w=w2 at*
 have HX:Hid (Below w2.heap.size w2 w2):=zH (zb _ _);have HN:=zH HP.out.fnlt;have HC:=zH HP.out.fn;obtain⟨q0,q1,q2,q3,q4,q5,q6⟩:=HP.out.img;obtain⟨o0,o1,o2⟩:=qw HP.out.ins;go_wp2_with(go_at_call 175;(with_reducible refine(qdm HI HX hy).mono ?_);rintro e w3 ⟨A3,c3,rfl,hs3,hb⟩;have HX3:=zH hb;have HS3:=zH hs3;clear hb hs3)
 go_ret;exact⟨_,_,rfl,HS3.out,HW.out.trans (HX3.out.mono HW.out.size)⟩
theorem ftk_33(m:za)(x:zh)(f:Nat)(a b:Int)(hx:m.methods[f]? =some x)(h:zi)(w:World)(H:zm w w.heap.size h m):
  Calls Tryz.prog 138 #[zp h m,zF 33 a b,.int .i64 f] w (qm (zE m x 33 a b) w):=by
 have e1:zE m x 33 a b=jO x:=by simp[zE]
 rw[e1];clear e1;obtain⟨hw,hp⟩:=qH h m 33 a b w;have HW:=zH hw;have HP:=zH hp;have HI:=zH (H.now hw);clear hw hp H;go_enter Tryz.func138,Tryz.ntmps138;go_upto_region 1 with fail
 change Code.wp _ _ _ _ (qu h m 33 a b w);go_upto_region 2 with(go_at_call 171;(refine(qI (h:=h) (m:=m) (w:=w)).mono ?_);rintro e w2 ⟨rfl,rfl⟩)
 generalize qz h m 33 a b w=w2 at*
 have HX:Hid (Below w2.heap.size w2 w2):=zH (zb _ _);have HN:=zH HP.out.fnlt;have HC:=zH HP.out.fn;obtain⟨q0,q1,q2,q3,q4,q5,q6⟩:=HP.out.img;obtain⟨o0,o1,o2⟩:=qw HP.out.ins;go_wp2_with(go_at_call 178;(with_reducible refine(q52 HI HX hx).mono ?_);rintro e w3 ⟨A3,c3,rfl,hs3,hb⟩;have HX3:=zj HX hb;have HS3:=zH hs3;clear hb hs3)
 go_ret;exact⟨_,_,rfl,HS3.out,HW.out.trans (HX3.out.mono HW.out.size)⟩
set_option maxHeartbeats 1600000 in
theorem ftk_28(m:za)(x:zh)(f:Nat)(a:Int)(k:Nat)(t:Int×Int)(hk:(qh m.classes a)[k]? =some t)(hn:m.classes.length≤1000)(hf:∀x ∈m.classes,x.fields.length≤1000)(h:zi)(w:World)(H:zm w w.heap.size h m):
  Calls Tryz.prog 138 #[zp h m,zF 28 a (k:Int),.int .i64 f] w (qm (zE m x 28 a (k:Int)) w):=by
 have e0:JA m a (k:Int)=t:=by unfold JA;rw[Xi,hk];rfl
 have e1:zE m x 28 a (k:Int)=[(3,a),t]:=by simp[zE,e0]
 rw[e1];clear e1;have HL:Hid (zS a [3]=[(3,a)]):=zH (by simp[zS,jm]);have HK:=zH hk;have HF:=zH hf;clear hk hf e0;obtain⟨i0,hi,hz0,hz1,hz2⟩:=jU JS;obtain⟨hw,hp⟩:=qH h m 28 a (k:Int) w;have HW:=zH hw;have HP:=zH hp;have HI:=zH (H.now hw);clear hw hp H;go_enter Tryz.func138,Tryz.ntmps138;go_upto_region 1 with fail
 change Code.wp _ _ _ _ (qu h m 28 a (k:Int) w);go_upto_region 2 with(go_at_call 171;(refine(qI (h:=h) (m:=m) (w:=w)).mono ?_);rintro e w2 ⟨rfl,rfl⟩)
 generalize qz h m 28 a (k:Int) w=w2 at*
 have HX:Hid (Below w2.heap.size w2 w2):=zH (zb _ _);have HN:=zH HP.out.fnlt;have HC:=zH HP.out.fn;obtain⟨q0,q1,q2,q3,q4,q5,q6⟩:=HP.out.img;obtain⟨o0,o1,o2⟩:=qw HP.out.ins;go_wp2_with fail
 have HXD:Hid (Below w2.heap.size w2 w2.drew):=zH (zb _ _).drew;have HKP:Hid (∀W,Below w2.heap.size w2 W→(fun w'=>w'.cell? ⟨w.heap.size,0,none⟩=some (.slice h.A0 m.classes.length h.c0)∧w'.cell? ⟨w.heap.size,1,none⟩=some (.slice h.A1 m.statics.length h.c1)∧w'.cell? ⟨w.heap.size,2,none⟩=some (.slice h.A2 m.ints.length h.c2)∧w'.cell? ⟨w.heap.size,3,none⟩=some (.slice h.A3 m.methods.length h.c3)∧w'.cell? ⟨w.heap.size,4,none⟩=some (.slice h.A4 m.entries.length h.c4)∧w'.cell? ⟨w.heap.size,5,none⟩=some (.int .i64 m.stack)∧w'.cell? ⟨w.heap.size,6,none⟩=some (.int .i64 m.heap)∧w'.cell? ⟨w.heap.size+1,0,none⟩=some (.int .i64 28)∧w'.cell? ⟨w.heap.size+1,1,none⟩=some (.int .i64 a)∧w'.cell? ⟨w.heap.size+1,2,none⟩=some (.int .i64 (k:Int))) W):=zH (fun W hW=>by
  have hz:=HP.out.size;obtain⟨d0,d1,d2,d3,d4,d5,d6⟩:=HP.out.img.keep hW (by omega);have di:=HP.out.ins.keep hW (by omega);exact⟨d0,d1,d2,d3,d4,d5,d6,di 0 _ rfl,di 1 _ rfl,di 2 _ rfl⟩)
 clear q0 q1 q2 q3 q4 q5 q6 o0 o1 o2;refine wp_region_noPanic ?_;refine wp_region_held_drew (S:=(fun w'=>w'.cell? ⟨w.heap.size,0,none⟩=some (.slice h.A0 m.classes.length h.c0)∧w'.cell? ⟨w.heap.size,1,none⟩=some (.slice h.A1 m.statics.length h.c1)∧w'.cell? ⟨w.heap.size,2,none⟩=some (.slice h.A2 m.ints.length h.c2)∧w'.cell? ⟨w.heap.size,3,none⟩=some (.slice h.A3 m.methods.length h.c3)∧w'.cell? ⟨w.heap.size,4,none⟩=some (.slice h.A4 m.entries.length h.c4)∧w'.cell? ⟨w.heap.size,5,none⟩=some (.int .i64 m.stack)∧w'.cell? ⟨w.heap.size,6,none⟩=some (.int .i64 m.heap)∧w'.cell? ⟨w.heap.size+1,0,none⟩=some (.int .i64 28)∧w'.cell? ⟨w.heap.size+1,1,none⟩=some (.int .i64 a)∧w'.cell? ⟨w.heap.size+1,2,none⟩=some (.int .i64 (k:Int)))) (by kernel_rfl) (HKP.out _ HXD.out) (fun hHeld=> ?_);refine mT 0 (h:=mT 3 (h:=mT 4 (h:= ?_)));refine wpAnyH_ready (rs:=[1]) (by kernel_rfl) (by simp) ?_;refine AllReadyH.cons (o:=_) rfl (fun K hK=> ?_) AllReadyH.nil;go_simp;refine hK.out _ _ (HKP.out _ (HXD.out.alloc HXD.out.size _)) (fun hHeld=> ?_);clear hK K;try simp only[sA,sB,sC,Act.put,sD,sE,sF]
 refine wpAnyH_ready (rs:=[2]) (by kernel_rfl) (by simp) ?_;refine AllReadyH.cons (o:=_) rfl (fun K hK=> ?_) AllReadyH.nil;go_simp;go_wp2_with(go_at_call 194;(with_reducible refine(qdk HL HN HC).mono ?_);rintro e w3 ⟨v3,rfl,ho3,hb3⟩;have HO3:=zH ho3;have HX3:=zH hb3;clear ho3 hb3)
 refine hK.out _ _ (HKP.out _ HX3.out) (fun hHeld=> ?_);clear hK K;try simp only[sA,sB,sC,Act.put,sD,sE,sF]
 refine wpAnyH_ready (rs:=[5]) (by kernel_rfl) (by simp) ?_;refine AllReadyH.cons (o:=_) rfl (fun K hK=> ?_) AllReadyH.nil;go_simp;go_wp2_with(go_at_call 173;(with_reducible refine(qc2 HI HX3 HK hn HF).mono ?_);rintro e w4 ⟨rfl,hb⟩;have HX4:=zj HX3 hb;have HO4:=zH (zT HO3.out hb (zL HO3.out));clear hb)
 refine hK.out _ _ (HKP.out _ HX4.out) (fun hHeld=> ?_);clear hK K;try simp only[sA,sB,sC,Act.put,sD,sE,sF]
 refine wpAnyH_ready (rs:=[6]) (by kernel_rfl) (by simp) ?_;refine AllReadyH.cons (o:=_) rfl (fun K hK=> ?_) AllReadyH.nil;go_simp;have HXB:=zH (HX4.out.alloc HX4.out.size (.cells #[.int .i64 t.1,.int .i64 t.2] 50));have hsz:=HX4.out.size;refine hK.out _ _ (HKP.out _ HXB.out) (fun hHeld=> ?_);clear hK K;try simp only[sA,sB,sC,Act.put,sD,sE,sF]
 refine wpAnyH_ready (rs:=[7]) (by kernel_rfl) (by simp) ?_;refine AllReadyH.cons (o:=_) rfl (fun K hK=> ?_) AllReadyH.nil
 (refine q13 rfl _ _ 23 rfl w2.heap.size 50 i0 (.agg #[.int .i64 0,.int .i64 0]) 2 16 Tryz.underlying23 hi hz0 hz1 hz2 rfl (by decide) _ 1 (qk [(3,a)]) rfl (HO4.out.alloc _) (some ⟨w4.heap.size,0,none⟩) 1 1 _ (qk [t]) rfl rfl (q6z (by simp) (by go_simp) (by go_simp)) (Jn _) (by unfold maxLen;omega) (by omega) (by simp;omega) ?_;intro v6 w6 hown hgrow;have HX6:=zH (jV HXB.out (HO4.out.alloc _) (by simp;omega) hgrow);have HO6:=zH hown;clear hown hgrow)
 refine hK.out _ _ (HKP.out _ HX6.out) (fun hHeld=> ?_);clear hK K;try simp only[sA,sB,sC,Act.put,sD,sE,sF]
 refine mT 8 (h:= ?_);refine wpAnyH_done (by kernel_rfl) ?_ _;refine NoPanic.normal ?_;go_wp2_with fail
 go_ret;exact kQ.some_ (w0:=w2) ⟨_,rfl,HO6.out,HX6.out⟩ HW.out
set_option maxHeartbeats 1600000 in
theorem ftk_32(m:za)(x:zh)(f:Nat)(a b:Int)(k:Nat)(hs:jP m.classes a b=some (k:Int))(y:zh)(hy:m.methods[k]? =some y)(hal:0<y.args.length)(hal2:y.args.length≤1000)(h:zi)(w:World)(H:zm w w.heap.size h m):
  Calls Tryz.prog 138 #[zp h m,zF 32 a b,.int .i64 f] w (qm (zE m x 32 a b) w):=by
 have e00:kY m a b=(k:Int):=by unfold kY;rw[hs];rfl
 have e0:zw m (k:Int)=y:=by unfold zw;rw[Xi,hy];rfl
 obtain⟨D,hD⟩:∃D,y.args.drop 1=D:=⟨_,rfl⟩
 have hDl:D.length≤1000:=by rw[←hD,XT];omega
 have HSL:=zH hs;have HY:=zH hy;have e1:zE m x 32 a b=(3,a)::D:=by rw[←hD];simp[zE,e0,e00]
 rw[e1];clear e1;have HL:Hid (zS a [3]=[(3,a)]):=zH (by simp[zS,jm]);have HD:=zH hD;have HCO:Hid (((3,a)::D).length=1+D.length):=zH (by rw[XJ,Nat.add_comm]);clear e00 e0 hs hy hD;obtain⟨i0,hi,hz0,hz1,hz2⟩:=jU JS;obtain⟨hw,hp⟩:=qH h m 32 a b w;have HW:=zH hw;have HP:=zH hp;have HI:=zH (H.now hw);clear hw hp H;go_enter Tryz.func138,Tryz.ntmps138;go_upto_region 1 with fail
 change Code.wp _ _ _ _ (qu h m 32 a b w);go_upto_region 2 with(go_at_call 171;(refine(qI (h:=h) (m:=m) (w:=w)).mono ?_);rintro e w2 ⟨rfl,rfl⟩)
 generalize qz h m 32 a b w=w2 at*
 have HX:Hid (Below w2.heap.size w2 w2):=zH (zb _ _);have HN:=zH HP.out.fnlt;have HC:=zH HP.out.fn;obtain⟨q0,q1,q2,q3,q4,q5,q6⟩:=HP.out.img;obtain⟨o0,o1,o2⟩:=qw HP.out.ins;go_wp2_with fail
 have HXD:Hid (Below w2.heap.size w2 w2.drew):=zH (zb _ _).drew;have HKP:Hid (∀W,Below w2.heap.size w2 W→(fun w'=>w'.cell? ⟨w.heap.size,0,none⟩=some (.slice h.A0 m.classes.length h.c0)∧w'.cell? ⟨w.heap.size,1,none⟩=some (.slice h.A1 m.statics.length h.c1)∧w'.cell? ⟨w.heap.size,2,none⟩=some (.slice h.A2 m.ints.length h.c2)∧w'.cell? ⟨w.heap.size,3,none⟩=some (.slice h.A3 m.methods.length h.c3)∧w'.cell? ⟨w.heap.size,4,none⟩=some (.slice h.A4 m.entries.length h.c4)∧w'.cell? ⟨w.heap.size,5,none⟩=some (.int .i64 m.stack)∧w'.cell? ⟨w.heap.size,6,none⟩=some (.int .i64 m.heap)∧w'.cell? ⟨w.heap.size+1,0,none⟩=some (.int .i64 32)∧w'.cell? ⟨w.heap.size+1,1,none⟩=some (.int .i64 a)∧w'.cell? ⟨w.heap.size+1,2,none⟩=some (.int .i64 b)) W):=zH (fun W hW=>by
  have hz:=HP.out.size;obtain⟨d0,d1,d2,d3,d4,d5,d6⟩:=HP.out.img.keep hW (by omega);have di:=HP.out.ins.keep hW (by omega);exact⟨d0,d1,d2,d3,d4,d5,d6,di 0 _ rfl,di 1 _ rfl,di 2 _ rfl⟩)
 clear q0 q1 q2 q3 q4 q5 q6 o0 o1 o2;refine wp_region_noPanic ?_;refine wp_region_held_drew (S:=(fun w'=>w'.cell? ⟨w.heap.size,0,none⟩=some (.slice h.A0 m.classes.length h.c0)∧w'.cell? ⟨w.heap.size,1,none⟩=some (.slice h.A1 m.statics.length h.c1)∧w'.cell? ⟨w.heap.size,2,none⟩=some (.slice h.A2 m.ints.length h.c2)∧w'.cell? ⟨w.heap.size,3,none⟩=some (.slice h.A3 m.methods.length h.c3)∧w'.cell? ⟨w.heap.size,4,none⟩=some (.slice h.A4 m.entries.length h.c4)∧w'.cell? ⟨w.heap.size,5,none⟩=some (.int .i64 m.stack)∧w'.cell? ⟨w.heap.size,6,none⟩=some (.int .i64 m.heap)∧w'.cell? ⟨w.heap.size+1,0,none⟩=some (.int .i64 32)∧w'.cell? ⟨w.heap.size+1,1,none⟩=some (.int .i64 a)∧w'.cell? ⟨w.heap.size+1,2,none⟩=some (.int .i64 b))) (by kernel_rfl) (HKP.out _ HXD.out) (fun hHeld=> ?_);refine mT 0 (h:=mT 3 (h:=mT 4 (h:=mT 5 (h:= ?_))));refine wpAnyH_ready (rs:=[1]) (by kernel_rfl) (by simp) ?_;refine AllReadyH.cons (o:=_) rfl (fun K hK=> ?_) AllReadyH.nil;go_simp;refine hK.out _ _ (HKP.out _ (HXD.out.alloc HXD.out.size _)) (fun hHeld=> ?_);clear hK K;try simp only[sA,sB,sC,Act.put,sD,sE,sF]
 refine wpAnyH_ready (rs:=[2]) (by kernel_rfl) (by simp) ?_;refine AllReadyH.cons (o:=_) rfl (fun K hK=> ?_) AllReadyH.nil;go_simp;go_wp2_with(go_at_call 194;(with_reducible refine(qdk HL HN HC).mono ?_);rintro e w3 ⟨v3,rfl,ho3,hb3⟩;have HO3:=zH ho3;have HX3:=zH hb3;clear ho3 hb3)
 refine hK.out _ _ (HKP.out _ HX3.out) (fun hHeld=> ?_);clear hK K;try simp only[sA,sB,sC,Act.put,sD,sE,sF]
 refine wpAnyH_ready (rs:=[6]) (by kernel_rfl) (by simp) ?_;refine AllReadyH.cons (o:=_) rfl (fun K hK=> ?_) AllReadyH.nil;go_simp;go_wp2_with(go_at_call 177;(with_reducible refine(qdh HI HX3 HSL).mono ?_);rintro e w4 ⟨rfl,hb⟩;have HX4:=zj HX3 hb;have HO4:=zH (zT HO3.out hb (zL HO3.out));clear hb)
 refine hK.out _ _ (HKP.out _ HX4.out) (fun hHeld=> ?_);clear hK K;try simp only[sA,sB,sC,Act.put,sD,sE,sF]
 refine wpAnyH_ready (rs:=[7]) (by kernel_rfl) (by simp) ?_;refine AllReadyH.cons (o:=_) rfl (fun K hK=> ?_) AllReadyH.nil;go_simp;go_wp2_with(go_at_call 176;(with_reducible refine(qkz HI HX4 HY.out hal).mono ?_);rintro e w5 ⟨A5,c5,rfl,hs5,hb⟩;(try rw[HD.out]at hs5);have HT5:=zH (YZ hs5.row);have HX5:=zj HX4 hb;have HO5:=zH (zT HO4.out hb (zL HO4.out));clear hb hs5;have HXB:=HX5;have hsz:=HX5.out.size;rw[HD.out])
 refine hK.out _ _ (HKP.out _ HX5.out) (fun hHeld=> ?_);clear hK K;try simp only[sA,sB,sC,Act.put,sD,sE,sF]
 refine wpAnyH_ready (rs:=[8]) (by kernel_rfl) (by simp) ?_;refine AllReadyH.cons (o:=_) rfl (fun K hK=> ?_) AllReadyH.nil
 (refine q13 rfl _ _ 23 rfl w2.heap.size 50 i0 (.agg #[.int .i64 0,.int .i64 0]) 2 16 Tryz.underlying23 hi hz0 hz1 hz2 rfl (by decide) _ 1 (qk [(3,a)]) rfl HO5.out A5 D.length c5 _ (qk D) (JU _) rfl HT5.out (Jn _) (by unfold maxLen;omega) (by omega) hsz ?_;intro v6 w6 hown hgrow;have HX6:=zH (jV HXB.out HO5.out hsz hgrow);have HO6:=zH hown;clear hown hgrow)
 refine hK.out _ _ (HKP.out _ HX6.out) (fun hHeld=> ?_);clear hK K;try simp only[sA,sB,sC,Act.put,sD,sE,sF]
 refine mT 9 (h:= ?_);refine wpAnyH_done (by kernel_rfl) ?_ _;refine NoPanic.normal ?_;go_wp2_with fail
 go_ret;exact kQ.some_ (w0:=w2) ⟨_,rfl,by rw[HCO.out];exact HO6.out,HX6.out⟩ HW.out
def vj(m:za)(n:Int):Bool:=match m.methods[n.toNat]? with
 |none=>false
 |some f=>(f.args.all fun t=>decide (t=(1,0)))&& (decide (f.ret=(1,0))||decide (f.ret=(5,0)))
theorem qlk{m:za}{n:Nat}(h:m.methods.length≤n):vj m (n:Int)=false:=by
 unfold vj;rw[Xi,Xv h]
theorem qlj{m:za}{n:Nat}{f:zh}(h:m.methods[n]? =some f):vj m (n:Int)=((f.args.all fun t=>decide (t=(1,0)))&& (decide (f.ret=(1,0))||decide (f.ret=(5,0)))):=by
 unfold vj;rw[Xi,h]
set_option maxHeartbeats 3200000 in
theorem qj0(m:za)(n:Nat)(h:zi)(w:World)(H:zm w w.heap.size h m):
  Calls Tryz.prog 88 #[zp h m,.int .i64 (n:Int)] w fun e w'=>e= .returned (.bool (vj m (n:Int)))∧Below w.heap.size w w':=by
 have HW0:=zH (vr (w:=w) (h:=h) (m:=m));have HBX0:=zH (ql w h m);have HZ0:Hid (w.heap.size<(w.alloc (zg h m)).heap.size):=zH (by simp);have HI0:=zH (H.now HW0.out);have l3:=H.methods.le;have l3c:=H.methods.cap;clear H;go_enter Tryz.func88,Tryz.ntmps88;go_upto_region 1 with fail
 have hz1:(w.alloc (zg h m)).heap.size=w.heap.size+1:=by simp
 have HZ1:=zH hz1;clear hz1;generalize w.alloc (zg h m)=w0 at*
 obtain⟨q0,q1,q2,q3,q4,q5,q6⟩:=HBX0.out;by_cases hnl:n<m.methods.length
 ·obtain⟨adm,e3,habm,hcm⟩:=HI0.out.methods.row.at_ hnl;have HES:=zH (qlj (Xc hnl));have HE3:=zH e3;generalize m.methods[n]=f at*
  obtain⟨fa,fl,⟨fr0,fr1⟩,fc,fd,fp,fh⟩:=f;obtain⟨⟨A0f,j0,f0,hf0⟩,_,f2,f3,_,_,_,_⟩:=hcm;dsimp only at f0 f2 f3 hf0;rw[e3]at q3;go_upto_region 4 with fail
  have hw1:=(zb w0.heap.size w0).alloc (zn _) (.cells #[.int .i64 1,.int .i64 0] 50);have HNB:=zH (qr w0 [.int .i64 1,.int .i64 0] 50);have HNZ:Hid (w0.heap.size<(w0.alloc (.cells #[.int .i64 1,.int .i64 0] 50)).heap.size):=zH (by simp);have HBX:=zH (HBX0.out.keep hw1 HZ0.out);have HZ:=zH (Xj HZ0.out hw1.size);have HZw:=zH (Xh (Xj HZ0.out hw1.size));have HW:=zH (HW0.out.trans (hw1.mono (Xh HZ0.out)));have HSfa:=zH ((hf0.below_to zc.keeps hw1 (zn _)).keep' zc.keeps hw1.size (fun _ _=>rfl));have hPm:(adm.add (n*8)).block<w0.heap.size:=by rw[zu];exact habm
  have f0:=(hw1.cell (p:=adm.add (n*8)) hPm).trans f0;have f2:=(hw1.cell (p:=zf (adm.add (n*8)) 2) hPm).trans f2;have f3:=(hw1.cell (p:=zf (adm.add (n*8)) 3) hPm).trans f3;have HPm:=zH (Xj hPm hw1.size);have HF0:Hid ((w0.alloc (.cells #[.int .i64 1,.int .i64 0] 50)).cell? (adm.add (n*8))=some (.slice A0f fa.length j0)∧(w0.alloc (.cells #[.int .i64 1,.int .i64 0] 50)).cell? (zf (adm.add (n*8)) 2)=some (.int .i64 fr0)∧(w0.alloc (.cells #[.int .i64 1,.int .i64 0] 50)).cell? (zf (adm.add (n*8)) 3)=some (.int .i64 fr1)):=zH ⟨f0,f2,f3⟩;have hj0:=hf0.le;have hj0c:=hf0.cap;have NN:=zH HZ1.out;rw[HZ1.out]at HNB HNZ;try rw[HZ1.out]
  clear e3 hw1 hf0 f0 f2 f3 hPm habm q0 q1 q2 q3 q4 q5 q6;generalize w0.alloc (.cells #[.int .i64 1,.int .i64 0] 50)=w1 at*
  have HX:Hid (Below w1.heap.size w1 w1):=zH (zb _ _);obtain⟨q0,q1,q2,q3,q4,q5,q6⟩:=HBX.out.keep HX.out HZ.out;rw[HE3.out]at q3;obtain⟨f0,f2,f3⟩:=HF0.out;have n0:=HNB.out 0 _ rfl;have n1:=HNB.out 1 _ rfl;go_wp2_with fail
  go_loopw [22] (fun i wr=>∃k:Nat,k≤fa.length∧i= .int .i64 k∧Hid (∀t ∈fa.take k,decide (t=(1,0))=true)∧Hid (Below w1.heap.size w1 wr)) (fun i _=>fa.length - (intOf i).toNat)
  case atStart=>exact⟨0,by omega,rfl,zH (by simp),HX⟩
  case round=>
   clear HX q0 q1 q2 q3 q4 q5 q6 f0 f2 f3 n0 n1;obtain⟨k,hk,rfl,HN,HX⟩:=hrel;obtain⟨q0,q1,q2,q3,q4,q5,q6⟩:=HBX.out.keep HX.out HZ.out;rw[HE3.out]at q3;have f2:=(HX.out.cell (p:=zf (adm.add (n*8)) 2) HPm.out).trans HF0.out.2.1;have f3:=(HX.out.cell (p:=zf (adm.add (n*8)) 3) HPm.out).trans HF0.out.2.2;have n0:=(HNB.out.keep HX.out HNZ.out) 0 _ rfl;have n1:=(HNB.out.keep HX.out HNZ.out) 1 _ rfl;have hnz:w.heap.size+1<wr.heap.size:=Xj HNZ.out HX.out.size;have hne:¬w.heap.size+1=wr.heap.size:=by omega
   by_cases hlt:k<fa.length
   ·obtain⟨ad,rfl,hab,t0,t1⟩:=HSfa.out.row.at_ hlt;have t0:=(HX.out.cell (p:=ad.add (k*2)) (by rw[zu];exact hab)).trans t0;have t1:=(HX.out.cell (p:=zf (ad.add (k*2)) 1) (by show(ad.add _).block<_;rw[zu];exact hab)).trans t1;have HNO:=zH (fun g:(fun t:Int×Int=>decide (t=(1,0))) fa[k]=false=>(vK hlt g:(fa.all fun t=>decide (t=(1,0)))=false));have HYE:=zH (fun g:(fun t:Int×Int=>decide (t=(1,0))) fa[k]=true=>vH hlt HN.out g);generalize fa[k]=t at*
    obtain⟨x,y⟩:=t;dsimp only at t0 t1;by_cases hxy:x=1∧y=0
    ·obtain⟨rfl,rfl⟩:=hxy;have HY:=zH (HYE.out rfl);go_wp2_with fail
     go_roundw;case rel=>exact⟨k+1,by omega,by go_num,HY,zH (HX.out.alloc HX.out.size _)⟩
     case measure=>simp[intOf];omega
    ·have ES:=zH (show vj m (n:Int)=false by rw[HES.out];(try dsimp only);rw[HNO.out (Xg (by simpa using hxy))];rfl);have hxx:¬x=1∨(x=1∧¬y=0):=by omega
     clear hxy;rcases hxx with hxx|⟨rfl,hxx⟩
     all_goals
      go_wp2_with fail
      go_ret;exact⟨by rw[ES.out];rfl,HW.out.trans ((HX.out.alloc HX.out.size _).mono HZw.out)⟩
   ·have HA:=zH (show(fa.all fun t=>decide (t=(1,0)))=true from vL (l:=fa) HN.out (by omega));by_cases h1:fr0=1∧fr1=0
    ·obtain⟨rfl,rfl⟩:=h1;have ES:=zH (show vj m (n:Int)=true by rw[HES.out];(try dsimp only);rw[HA.out];rfl);go_wp2_with fail
     go_ret;exact⟨by rw[ES.out];rfl,HW.out.trans ((HX.out.alloc HX.out.size _).mono HZw.out)⟩
    ·by_cases h5:fr0=5∧fr1=0
     ·obtain⟨rfl,rfl⟩:=h5;have ES:=zH (show vj m (n:Int)=true by rw[HES.out];(try dsimp only);rw[HA.out];rfl);go_wp2_with fail
      go_ret;exact⟨by rw[ES.out];rfl,HW.out.trans ((HX.out.alloc HX.out.size _).mono HZw.out)⟩
     ·have ES:=zH (show vj m (n:Int)=false by rw[HES.out];(try dsimp only);rw[HA.out,Xg (by simpa using h1),Xg (by simpa using h5)];rfl);rcases(show(¬fr0=1∧¬fr0=5)∨(fr0=1∧¬fr1=0)∨(fr0=5∧¬fr1=0)by omega)with⟨g1,g5⟩|⟨rfl,g⟩|⟨rfl,g⟩
      all_goals
       clear h1 h5;go_wp2_with fail
       go_ret;exact⟨by rw[ES.out];rfl,HW.out.trans ((HX.out.alloc HX.out.size _).mono HZw.out)⟩
 ·have ES:=zH (qlk (m:=m) (Nat.le_of_not_lt hnl));go_wp2_with fail
  go_ret;exact⟨by rw[ES.out];rfl,HW0.out⟩
set_option maxHeartbeats 6400000 in
theorem qft(l:List (List zo))(A A':Option Addr)(c c':Nat)(w:World)(h:ze (zI jK 2) 1 w w.heap.size A c l)(h':ze (zI jK 2) 1 w w.heap.size A' c' l):
  Calls Tryz.prog 14 #[.slice A l.length c,.slice A' l.length c'] w fun e w'=>e= .returned (.bool true)∧Below w.heap.size w w':=by
 have HA:=zH h;have HA':=zH h';have a1:=h.le;have a2:=h.cap;have a3:=h'.le;have a4:=h'.cap;clear h h';obtain⟨n,hn⟩:∃n,l.length=n:=⟨_,rfl⟩
 have HN:=zH hn;rw[hn]at a1 a3⊢
 clear hn;have HX0:Hid (Below w.heap.size w w):=zH (zb _ _);go_enter Tryz.func14,Tryz.ntmps14;go_wp2_with fail
 go_loopw [5] (fun i wr=>∃k:Nat,k≤n∧i= .int .i64 k∧Hid (Below w.heap.size w wr)) (fun i _=>n - (intOf i).toNat)
 case atStart=>exact⟨0,Xp _,rfl,HX0⟩
 case round=>
  clear HX0;obtain⟨k,hk,rfl,HX⟩:=hrel;by_cases hlt:k<n;rotate_left
  ·have hki:¬(k:Int)<(n:Int):=by omega
   go_wp2_with fail
   go_ret;exact⟨by first|rfl|simp,HX.out⟩
  have hkl:k<l.length:=by rw[HN.out];exact hlt
  obtain⟨S,hS⟩:∃S,l[k]=S:=⟨_,rfl⟩
  obtain⟨ad,rfl,hab,A1,c1,r0,hs⟩:=HA.out.row.at_ hkl;obtain⟨ad',rfl,hab',A1',c1',r0',hs'⟩:=HA'.out.row.at_ hkl;rw[hS]at r0 hs r0' hs';rw[Xz]at r0 r0';have HR0:=zH r0;have HR0':=zH r0';have HAB:Hid (ad.block<w.heap.size∧ad'.block<w.heap.size):=zH ⟨hab,hab'⟩;have HSR:=zH hs;have HSR':=zH hs';have s1:=hs.le;have s2:=hs.cap;have s3:=hs'.le;have s4:=hs'.cap;have r0:=(HX.out.cell (p:=ad.add k) (by rw[zu];exact hab)).trans r0;have r0':=(HX.out.cell (p:=ad'.add k) (by rw[zu];exact hab')).trans r0';have hki:(k:Int)<(n:Int):=by omega
  clear hs hs' hS hkl hab hab';go_upto_region 6 with fail
  go_region
  all_goals
   go_wp2_with fail
   clear r0 r0';have HXD:Hid (Below w.heap.size w wr.drew):=zH HX.out.drew;go_loopw [6] (fun i wi=>∃s:Nat,s≤S.length∧i= .int .i64 s∧Hid (Below w.heap.size w wi)) (fun i _=>S.length - (intOf i).toNat)
   case atStart=>exact⟨0,Xp _,rfl,HXD⟩
   case round=>
    clear HXD HX;obtain⟨s,hsl,rfl,HX⟩:=hrel;have r0:=(HX.out.cell (p:=ad.add k) (by rw[zu];exact HAB.out.1)).trans HR0.out;have r0':=(HX.out.cell (p:=ad'.add k) (by rw[zu];exact HAB.out.2)).trans HR0'.out;by_cases hst:s<S.length;rotate_left
    ·have hsi:¬(s:Int)<(S.length:Int):=by omega
     go_wp2_with fail
     go_roundw;case rel=>exact⟨k+1,by omega,by go_num,HX⟩
     case measure=>simp[intOf];omega
    have hsi:(s:Int)<(S.length:Int):=by omega
    obtain⟨bd,rfl,hbb,t0,B1,e1,t1,ht⟩:=HSR.out.row.at_ hst;obtain⟨bd',rfl,hbb',t0',B1',e1',t1',ht'⟩:=HSR'.out.row.at_ hst;generalize S[s]=sh at*
    obtain⟨se,st⟩:=sh;dsimp only at t0 t0' t1 t1' ht ht';have HT:=zH ht;have HT':=zH ht';have t2:=ht.le;have t3:=ht.cap;have t4:=ht'.le;have t5:=ht'.cap;have hd:(se !=se)=false:=by simp
    have HTN:Hid (st.length=st.length):=zH rfl;have HTD:Hid (decide (st=st)=true):=zH (Xm rfl);have HKP:Hid (∀W,Below w.heap.size w W→(fun w'=>w'.cell? (ad.add k)=some (.slice (some bd) S.length c1)∧w'.cell? (ad'.add k)=some (.slice (some bd') S.length c1')∧w'.cell? (bd.add (s*2))=some (.bool se)∧w'.cell? (bd'.add (s*2))=some (.bool se)∧w'.cell? (zf (bd.add (s*2)) 1)=some (.slice B1 st.length e1)∧w'.cell? (zf (bd'.add (s*2)) 1)=some (.slice B1' st.length e1')) W):=zH (fun W hW=>⟨(hW.cell (p:=ad.add k) (by rw[zu];exact HAB.out.1)).trans HR0.out,(hW.cell (p:=ad'.add k) (by rw[zu];exact HAB.out.2)).trans HR0'.out,(hW.cell (p:=bd.add (s*2)) (by rw[zu];exact hbb)).trans t0,(hW.cell (p:=bd'.add (s*2)) (by rw[zu];exact hbb')).trans t0',(hW.cell (p:=zf (bd.add (s*2)) 1) (by show(bd.add _).block<_;rw[zu];exact hbb)).trans t1,(hW.cell (p:=zf (bd'.add (s*2)) 1) (by show(bd'.add _).block<_;rw[zu];exact hbb')).trans t1'⟩);have HXD:Hid (Below w.heap.size w wr.drew):=zH HX.out.drew;clear t0 t0' t1 t1' ht ht' hbb hbb';go_upto_region 11 with fail
    clear r0 r0';go_region_held3 (fun w'=>w'.cell? (ad.add k)=some (.slice (some bd) S.length c1)∧w'.cell? (ad'.add k)=some (.slice (some bd') S.length c1')∧w'.cell? (bd.add (s*2))=some (.bool se)∧w'.cell? (bd'.add (s*2))=some (.bool se)∧w'.cell? (zf (bd.add (s*2)) 1)=some (.slice B1 st.length e1)∧w'.cell? (zf (bd'.add (s*2)) 1)=some (.slice B1' st.length e1')) (first|exact HKP.out _ HXD.out|exact HKP.out _ HX5.out) (first
     |(go_at_call 31;(with_reducible refine(qih HT HT' HXD HTN HTN HTD).mono ?_);rintro e w5 ⟨rfl,hb⟩;have HX5:=zj HXD hb;clear hb))
    rename_i hHeld;clear hHeld;go_wp2_with fail
    go_roundw;case rel=>exact⟨s+1,by omega,by go_num,HX5⟩
    case measure=>simp[intOf];omega
end Go.Proofs.YtcmiljnbmgkdnaaGreat
