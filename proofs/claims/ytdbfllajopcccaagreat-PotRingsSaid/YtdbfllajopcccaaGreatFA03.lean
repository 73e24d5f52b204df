import Derived.Test.YtdbfllajopcccaaGreatFA02
namespace Go.Proofs.YtdbfllajopcccaaGreat
set_option maxRecDepth 100000
set_option linter.unusedVariables false
set_option linter.unusedSimpArgs false
open Go.ChangeShapes Go.WideShapes Go.ChangeAt Go.RowKit
theorem kK:(Tryz.prog.info? 39).map (fun i=>(i.zero,i.size,i.bytes))=some (some (.agg #[.int .i64 0,.int .i64 0]),2,16):=by kernel_rfl
theorem jg{P:Program}{t:TypeId}{z:Value}{k b:Nat}(h:(P.info? t).map (fun i=>(i.zero,i.size,i.bytes))=some (some z,k,b)):∃i,P.info? t=some i∧i.zero=some z∧i.size=k∧i.bytes=b:=by
 cases hi:P.info? t with
 |none=>rw[hi]at h;simp at h
 |some i=>
  rw[hi]at h;simp only[Option.map_some,Option.some.injEq,Prod.mk.injEq]at h;exact⟨i,rfl,h.1,h.2.1,h.2.2⟩
def QB(l:List (Int×Int))(w:World)(e:Ending)(w':World):Prop:=
 ∃v,e= .returned v∧w'.ownsRow w.heap.size 39 2 v l.length (zD l)∧Below w.heap.size w w'
theorem qc3{w:World}{B:Nat}{A:Option Addr}{l:List Int}(h:zz w B A (l.map (Value.int .i64))){k:Nat}(hk:k<l.length):∃ad,A=some ad∧ad.block<B∧w.cell? (ad.add k)=some (.int .i64 l[k]):=by
 obtain⟨ad,e,hb,hc⟩:=h.at_ (k:=k) (by simpa using hk);simp only[List.getElem_map]at hc;exact⟨ad,e,hb,hc⟩
theorem q1j{cl:List qv}(h:∀c ∈cl,c.fields.length≤1000):∀l:List Int,(l.flatMap (vU cl)).length≤1000*l.length
 | []=>by simp
 |i::l=>by
  rw[List.flatMap_cons,List.length_append,List.length_cons];have:=q1j h l;have hi:(vU cl i).length≤1000:=by
   unfold vU;split
   ·rename_i c hc;exact h c (List.mem_of_getElem? hc)
   ·simp
  omega
theorem q4r{sup U:List Int}{c:Int}{A:Option Addr}{cap n:Nat}{w:World}(HN:Hid (sup.length=n))(hn:n≤1048576)(HU:Hid (zA sup c=U))(HS:Hid (jr w w.heap.size A sup)):
  Calls Tryz.prog 54 #[.slice A n cap,.int .i64 c] w (vO U w):=by
 obtain rfl:=HN.out;have h:=q1g sup c A cap w.heap.size w hn (zn _) HS.out;rw[HU.out]at h;exact h
theorem q7p{cl:List qv}{i:Nat}(h:i<cl.length):vU cl (i:Int)=cl[i].fields:=by
 unfold vU;rw[Int.toNat_natCast,List.getElem?_eq_getElem h]
set_option maxHeartbeats 1600000 in
theorem q7y(m:za)(c:Int)(h:zl)(w:World)(H:zp w w.heap.size h m)(hn:m.classes.length≤1000)(hf:∀x ∈m.classes,x.fields.length≤1000):
  Calls Tryz.prog 28 #[zr h m,.int .i64 c] w (QB (qS m.classes c) w):=by
 obtain⟨i0,hi,hz0,hz1,hz2⟩:=jg kK;have HW:=zH ((zb w.heap.size w).alloc (zn _) (zq h m));have HIM:=zH (H.now HW.out);have HBX:=zH (qf w h m);have HZ:Hid (w.heap.size<(w.alloc (zq h m)).heap.size):=zH (by simp);have HF:=zH hf;have HS:=zH (Jv HIM.out.classes.row);have hsl:(zw m.classes).length=m.classes.length:=vZ _;have HFO:=zH (show qS m.classes c=(zA (zw m.classes) c).reverse.flatMap (vU m.classes)from rfl);obtain⟨U,hU⟩:∃U,zA (zw m.classes) c=U:=⟨_,rfl⟩
 have hUl:U.length≤1000:=by rw[←hU];have:=YZ (zw m.classes) c;omega
 have HUm:Hid (∀i ∈U,0≤i∧i<m.classes.length):=zH (by rw[←hU];intro i hi;have:=qb6 hi;omega);have HU:=zH hU;rw[hU]at HFO;have HSl:=zH hsl;clear hsl hU H hf;go_enter Tryz.func28,Tryz.ntmps28;go_upto_region 1 with fail
 generalize w.alloc (zq h m)=w1 at*
 obtain⟨q0,q1,q2,q3,q4,q5,q6⟩:=HBX.out;go_upto_region 2 with(go_at_call 54;(with_reducible refine(q4r HSl (by omega) HU HS).mono ?_);rintro e w2 ⟨v2,rfl,ho,hb⟩;have HB2:=zH hb;obtain⟨A2,c2,rfl,hl2,g1,g2⟩:=kM ho;have HL2:=zH hl2;clear hb ho hl2)
 have HI2:=zH (HIM.out.now HB2.out);clear q0 q1 q2 q3 q4 q5 q6;obtain⟨q0,q1,q2,q3,q4,q5,q6⟩:=HBX.out.keep HB2.out HZ.out;go_wp2
 go_loopw [6,7] (fun v i wr=>∃(k:Nat) (z:Int),k≤U.length∧i= .int .i64 z∧z=(k:Int) - 1∧Hid (wr.ownsRow w2.heap.size 39 2 v ((U.drop k).reverse.flatMap (vU m.classes)).length (zD ((U.drop k).reverse.flatMap (vU m.classes))))∧Hid (Below w2.heap.size w2 wr)) (fun _ i _=>(intOf i+1).toNat)
 case atStart=>exact⟨U.length,_,zn _,rfl,rfl,zH (by rw[List.drop_length];exact ka w2 _ 2),zH ((zb _ _).alloc (zn _) _)⟩
 case round=>
  clear q0 q1 q2 q3 q4 q5 q6;obtain⟨k,z,hk,rfl,hz,HO,HX⟩:=hrel;rcases k with _|j
  ·obtain rfl:z= -1:=by omega
   clear hz;go_wp2_with fail
   go_ret;refine⟨_,rfl,?_,HW.out.trans ((HB2.out.trans (HX.out.mono HB2.out.size)).mono (Nat.le_of_lt HZ.out))⟩;rw[HFO.out];exact jI (by simpa using HO.out) (Nat.le_trans (Nat.le_of_lt HZ.out) HB2.out.size)
  ·obtain rfl:z=(j:Int):=by omega
   clear hz;have hjl:j<U.length:=hk;obtain⟨q0,q1,q2,q3,q4,q5,q6⟩:=HBX.out.keep (HB2.out.trans (HX.out.mono HB2.out.size)) HZ.out;obtain⟨ad,rfl,had,hc⟩:=qc3 HL2.out hjl;obtain⟨u0,u1⟩:=HUm.out U[j] (List.getElem_mem hjl);have HT:Hid ((U.drop j).reverse.flatMap (vU m.classes)=(U.drop (j+1)).reverse.flatMap (vU m.classes)++vU m.classes U[j]):=zH (by rw[List.drop_eq_getElem_cons hjl,List.reverse_cons,List.flatMap_append,List.flatMap_singleton]);have hsum:=q1j HF.out (U.drop (j+1)).reverse;have hsl:(U.drop (j+1)).reverse.length≤1000:=by rw[List.length_reverse,List.length_drop];omega
   generalize U[j]=u at*
   obtain⟨n,rfl⟩:=Int.eq_ofNat_of_zero_le u0;have hnl:n<m.classes.length:=by omega
   have hfx:=HF.out _ (List.getElem_mem hnl);have HFA:=zH (q7p hnl);obtain⟨adc,e0,hab,hcl⟩:=HI2.out.classes.row.at_ hnl;generalize m.classes[n]=x at*
   rw[HFA.out]at HT;obtain⟨L,hL⟩:∃L,(U.drop (j+1)).reverse.flatMap (vU m.classes)=L:=⟨_,rfl⟩
   rw[hL]at HT HO hsum;have hLl:L.length≤1000000:=by omega
   obtain⟨s0,⟨A1,k1,s1,hs1⟩,_⟩:=hcl;rw[e0]at q0;have HC2:Hid (∀W,Below w2.heap.size w2 W→W.cell? (ad.add j)=some (.int .i64 (n:Int))):=zH (fun W hW=>(hW.cell (p:=ad.add j) (by rw[zt];exact had)).trans hc);have HS2:Hid (∀W,Below w2.heap.size w2 W→W.cell? (zc (adc.add (n*3)) 1)=some (.slice A1 x.fields.length k1)):=zH (fun W hW=>(hW.cell (p:=zc (adc.add (n*3)) 1) (by show(adc.add _).block<_;rw[zt];exact hab)).trans s1);have HQ2:Hid (∀W,Below w2.heap.size w2 W→W.cell? ⟨w.heap.size,0,none⟩=some (.slice (some adc) m.classes.length h.c0)):=zH (fun W hW=>by have:=(HBX.out.keep (HB2.out.trans (hW.mono HB2.out.size)) HZ.out).1;rw[e0]at this;exact this);have hc:=HC2.out _ HX.out;have s1:=HS2.out _ HX.out;have HTL:=zH (vl (hs1.below_to zi.keeps HX.out (zn _)).row);have bc1:=HI2.out.classes.le;have bc2:=HI2.out.classes.cap;have hs2:=hs1.le;have hs3:=hs1.cap;have hsz:=HX.out.size;clear e0 hs1 hL hsum hsl s0 u0 u1;go_upto_region 6 with fail
   have HO:Hid (wr.drew.ownsRow w2.heap.size 39 2 u6 L.length (zD L)):=HO;have HX:Hid (Below w2.heap.size w2 wr.drew):=zH HX.out.drew;have HTL:Hid (zz wr.drew w2.heap.size A1 (zD x.fields)):=HTL;have hsz:w2.heap.size≤wr.drew.heap.size:=hsz;refine wp_region_noPanic ?_;refine wp_region_held_drew (S:=(fun w'=>w'.cell? ⟨w.heap.size,0,none⟩=some (.slice (some adc) m.classes.length h.c0)∧w'.cell? (ad.add j)=some (.int .i64 (n:Int))∧w'.cell? (zc (adc.add (n*3)) 1)=some (.slice A1 x.fields.length k1))) (by kernel_rfl) ⟨q0,hc,s1⟩ (fun hHeld=> ?_);refine mT 0 (h:=mT 1 (h:=mT 2 (h:=mT 3 (h:=mT 4 (h:=mT 5 (h:=mT 6 (h:=mT 7 (h:= ?_))))))));refine mT 8 (h:=mT 9 (h:= ?_));refine wpAnyH_ready (rs:=[10]) (by kernel_rfl) (by simp) ?_;refine AllReadyH.cons (o:=_) rfl (fun K hK=> ?_) AllReadyH.nil
   (refine Qy rfl _ _ 23 rfl w2.heap.size 39 i0 (.agg #[.int .i64 0,.int .i64 0]) 2 16 Tryz.underlying23 hi hz0 hz1 hz2 rfl (by decide) _ L.length (zD L) rfl HO.out A1 x.fields.length k1 _ (zD x.fields) (vz _) rfl HTL.out (jt _) (by unfold maxLen;omega) (by omega) hsz ?_;intro v6 w6 hown hgrow;have HX6:=zH (qA HX.out HO.out hsz hgrow);have HO6:=zH hown;clear hown hgrow)
   refine hK.out _ _ ⟨HQ2.out _ HX6.out,HC2.out _ HX6.out,HS2.out _ HX6.out⟩ (fun hHeld=> ?_);clear hK K;try simp only[sA,sB,sC,Act.put,sD,sE,sF]
   refine mT 11 (h:= ?_);refine wpAnyH_done (by kernel_rfl) ?_ _;refine NoPanic.normal ?_;go_wp2_with fail
   go_roundw;case rel=>
    refine⟨j,(j:Int) - 1,by omega,by go_num,rfl,zH ?_,HX6⟩;rw[HT.out];unfold zD at HO6⊢
    rw[List.flatMap_append,List.length_append];exact HO6.out
   case measure=>simp[intOf]
section
variable{m:za}{h:zl}{w0 w:World}{c:Int}
theorem q1f{L:List (Int×Int)}(HI:Hid (zp w0 w0.heap.size h m))(HX:Hid (Below w0.heap.size w0 w))(HL:Hid (qS m.classes c=L))(hn:m.classes.length≤1000)(HF:Hid (∀x ∈m.classes,x.fields.length≤1000)):
  Calls Tryz.prog 28 #[zr h m,.int .i64 c] w (QB L w):=by
 have H:=q7y m c h w (HI.out.now HX.out) hn HF.out;rw[HL.out]at H;exact H
end
theorem VI{cl:List qv}(h:∀c ∈cl,c.fields.length≤1000)(hn:cl.length≤1000)(c:Int):(qS cl c).length≤1000000:=by
 have h1:=q1j h (zA (zw cl) c).reverse;have h2:=YZ (zw cl) c;rw[vZ]at h2;rw[List.length_reverse]at h1;show((zA (zw cl) c).reverse.flatMap (vU cl)).length≤1000000;omega
def jd(x:ze):List (Int×Int):=if x.ret.1=5 then []else [x.ret]
def zm(m:za)(a:Int):ze:=m.methods[a.toNat]?.getD ⟨[],[],(0,0),[],0,0,[]⟩
def ZB(m:za)(a b:Int):Int×Int:=(qS m.classes a)[b.toNat]?.getD (0,0)
def Zt(m:za)(a:Int):Int×Int:=m.statics[a.toNat]?.getD (0,0)
def kt(m:za)(a b:Int):Int:=(vb m.classes a b).getD 0
def zE(m:za)(x:ze)(op a b:Int):List (Int×Int):=
 if op=4 then [qB x a]else if op=5 then [(0,0)]else if op=19 then [(1,0)]else if op=20 then [(4,0)]else if op=21 then [(4,0),(4,0)]else
 if op=23 then [(1,0)]else if op=24 then [(2,0),(1,0)]else if op=25 then [(2,0),(1,0),(1,0)]else if op=26 then [(2,0)]else if op=27 then [(3,a)]else
 if op=28 then [(3,a),ZB m a b]else if op=30 then [Zt m a]else if op=34 then [(4,0)]else if op=33 then jd x else
 if op=31 then(zm m a).args else if op=32 then(3,a)::(zm m (kt m a b)).args.drop 1 else
 if 7≤op∧op≤17 then [(1,0),(1,0)]else []
def zB(m:za)(x:ze)(op a b:Int):List (Int×Int):=
 if op=1 then [(1,0)]else if op=2 then [(4,0)]else if op=3 then [qB x a]else if op=20 then [(1,0)]else if op=21 then [(1,0)]else if op=22 then [(3,a)]else
 if op=23 then [(2,0)]else if op=24 then [(1,0)]else if op=26 then [(1,0)]else if op=27 then [ZB m a b]else if op=29 then [Zt m a]else
 if op=34 then [(3,a)]else if op=31 then jd (zm m a)else if op=32 then jd (zm m (kt m a b))else
 if 7≤op∧op≤17 then [(1,0)]else []
def qk(sup:List Int)(op:Int)(have_ want:Int×Int):Bool:=
 if want.1=0 then true else if want.1=4 then jO have_.1&& !(decide (op=34)&& decide (have_.1=2))else zG sup have_.1 have_.2 want.1 want.2
def qE(pc op a:Int):List Int:=if op=18 then [a]else if op=19 then [pc+1,a]else if op=33 then []else [pc+1]
structure ZZ where
 after:List (Int×Int)
 next:List Int
 err:Int
deriving DecidableEq
def qL(e:Int):ZZ:=⟨[],[],e⟩
def qO(m:za)(x:ze)(op a b:Int)(st:List (Int×Int)):List (Int×Int):=if op=6∧st≠ []then [(0,0)]else zE m x op a b
def ju(m:za)(x:ze)(op a b:Int)(st:List (Int×Int)):List (Int×Int):=if op=6∧st≠ []then [st.getLast?.getD (0,0),st.getLast?.getD (0,0)]else zB m x op a b
def qr(m:za)(x:ze)(pc op a b:Int)(st:List (Int×Int)):ZZ:=
 if(qE pc op a).head?.any (fun n=>decide ((x.code.length:Int)≤n))=true then qL 4 else
 if(op=6∧st=[])∨st.length<(qO m x op a b st).length∨8<st.length - (qO m x op a b st).length+(ju m x op a b st).length then qL 4 else
 if((st.drop (st.length - (qO m x op a b st).length)).zip (qO m x op a b st)).all (fun p=>qk (zw m.classes) op p.1 p.2)=true then
  ⟨st.take (st.length - (qO m x op a b st).length)++ju m x op a b st,qE pc op a,0⟩else qL 4
def zK(m:za)(f pc:Int)(st:List (Int×Int)):ZZ:=
 if 0≤f∧f<m.methods.length∧0≤pc∧pc<(zm m f).code.length then
  match(zm m f).code[pc.toNat]? with
  |some i=>qr m (zm m f) pc i.1 i.2.1 i.2.2 st
  |none=>qL 1
 else qL 1
def je(sup:List Int)(c:Int):Nat→List Int
 |0=> []
 |k+1=>if qc (zA sup k) c then je sup c k++[(k:Int)]else je sup c k
def Ze(cl:List qv)(c:Int):List Int:=je (zw cl) c cl.length
theorem YS(sup:List Int)(c:Int):∀k,(je sup c k).length≤k
 |0=>zn _
 |k+1=>by
  unfold je;have:=YS sup c k;split
  ·simp;omega
  ·omega
theorem VT(sup:List Int)(c:Int):∀(k:Nat) (x:Int),x ∈je sup c k↔0≤x∧x<k∧qc (zA sup x) c=true
 |0,x=>by simp[je];omega
 |k+1,x=>by
  unfold je;have ih:=VT sup c k x;split
  ·rename_i g;rw[List.mem_append,ih,List.mem_singleton];constructor
   ·rintro(⟨a,b,d⟩|rfl)
    ·exact⟨a,by omega,d⟩
    ·exact⟨by omega,by omega,g⟩
   ·rintro⟨a,b,d⟩;by_cases e:x=k
    ·exact .inr e
    ·exact .inl ⟨a,by omega,d⟩
  ·rename_i g;rw[ih];constructor
   ·rintro⟨a,b,d⟩;exact⟨a,by omega,d⟩
   ·rintro⟨a,b,d⟩;refine⟨a,?_,d⟩;by_cases e:x=k
    ·subst e;exact absurd d g
    ·omega
theorem q3b(sup:List Int)(c:Int):∀k,(je sup c k).Pairwise (· < ·)
 |0=>List.Pairwise.nil
 |k+1=>by
  unfold je;split
  ·rw[List.pairwise_append];refine⟨q3b sup c k,by simp,fun a ha b hb=> ?_⟩;rw[List.mem_singleton]at hb;subst hb;exact((VT sup c k a).mp ha).2.1
  ·exact q3b sup c k
theorem qen{sup:List Int}{c:Nat}(h:c<sup.length):je sup c (c+1)=[(c:Int)]:=by
 have e:je sup (c:Int) c=[]:=by
  apply List.eq_nil_iff_forall_not_mem.mpr;intro x hx;obtain⟨h0,h1,h2⟩:=(VT sup c c x).mp hx;have:=Qg (QE.mp h2);omega
 unfold je;rw[if_pos (QE.mpr (q1m (by omega) (by omega))),e];rfl
theorem qji{sup:List Int}{c:Int}(h:c<0∨(sup.length:Int)≤c)(k:Nat)(hk:k≤sup.length):je sup c k=[]:=by
 apply List.eq_nil_iff_forall_not_mem.mpr;intro x hx;obtain⟨h0,h1,h2⟩:=(VT sup c k x).mp hx;have:=Qg (QE.mp h2);omega
theorem Vu(w:World)(z:Int){N:Nat}{T:TypeId}(hN:w.heap.size=N:=by rfl):∀j u,[Value.int .i64 z][j]? =some u→(w.alloc (.cells #[.int .i64 z] T)).cell? ((⟨N,0,none⟩:Addr).add j)=some u:=by
 subst hN;intro j u hj
 match j,hj with
 |0,hj=>simp at hj;subst hj;simp[Addr.add]
theorem Vo(z:Int):∀u ∈ [Value.int .i64 z],u.oneCell'=true:=by intro u hu;simp at hu;subst hu;rfl
set_option maxHeartbeats 1600000 in
theorem qgx(m:za)(c:Int)(h:zl)(w:World)(H:zp w w.heap.size h m)(hn:m.classes.length≤1000):
  Calls Tryz.prog 55 #[zr h m,.int .i64 c] w (vO (Ze m.classes c) w):=by
 obtain⟨i0,hi,hz0,hz1,hz2⟩:=info_parts kp;have HW:=zH ((zb w.heap.size w).alloc (zn _) (zq h m));have HIM:=zH (H.now HW.out);have HBX:=zH (qf w h m);have HZ:Hid (w.heap.size<(w.alloc (zq h m)).heap.size):=zH (by simp);have HS:=zH (Jv HIM.out.classes.row);have hsl:(zw m.classes).length=m.classes.length:=vZ _;have hle:=H.classes.le;have hcap:=H.classes.cap;have HE:=zH (show Ze m.classes c=je (zw m.classes) c m.classes.length from rfl);obtain⟨sup,hsup⟩:∃sup,zw m.classes=sup:=⟨_,rfl⟩
 rw[hsup]at hsl HS HE;have HSl:=zH hsl;clear hsl hsup H;go_enter Tryz.func55,Tryz.ntmps55;go_upto_region 1 with fail
 generalize w.alloc (zq h m)=w1 at*
 go_wp2
 go_loopw [5,6] (fun v i wr=>∃k:Nat,k≤m.classes.length∧i= .int .i64 k∧Hid (wr.ownsRow w1.heap.size 3 1 v (je sup c k).length ((je sup c k).map (Value.int .i64)))∧Hid (Below w1.heap.size w1 wr)) (fun _ i _=>m.classes.length - (intOf i).toNat)
 case atStart=>exact⟨0,Nat.zero_le _,rfl,zH (JB w1 _),zH ((zb _ _).alloc (zn _) _)⟩
 case round=>
  obtain⟨k,hk,rfl,HO,HX⟩:=hrel;obtain⟨q0,q1,q2,q3,q4,q5,q6⟩:=HBX.out.keep HX.out HZ.out;have hbl:=YS sup c k;by_cases hlt:k<m.classes.length
  ·obtain⟨b,hb⟩:∃b,qc (zA sup k) c=b:=⟨_,rfl⟩
   have HST:=zH (show je sup c (k+1)=if b=true then je sup c k++[(k:Int)]else je sup c k by rw[←hb];rfl);obtain⟨U,hU⟩:∃U,zA sup k=U:=⟨_,rfl⟩
   have hUl:U.length≤9223372036854775807:=by rw[←hU];have:=YZ sup k;have:=HSl.out;omega
   have HU:=zH hU;rw[hU]at hb;have HB:=zH hb;clear hU hb;have HSr:=zH ((HS.out.below_to HX.out (zn _)):jr wr w1.heap.size h.A0 sup);generalize je sup c k=L at*
   have hsz:=HX.out.size;have HSw:Hid (jr wr wr.heap.size h.A0 sup):=zH (fun i s hs=>by obtain⟨ad,e,a0,a1⟩:=HSr.out i s hs;exact⟨ad,e,Nat.lt_of_lt_of_le a0 hsz,a1⟩);have hn':m.classes.length≤1048576:=by omega
   cases b
   ·have e1:je sup c (k+1)=L:=HST.out;have HST1:=zH e1;clear e1 HST;go_wp2_with(first
     |(go_at_call 54;(with_reducible refine(q4r HSl hn' HU HSw).mono ?_);rintro e w2 ⟨v2,rfl,ho,hb⟩;have HX2:=zH (HX.out.trans (hb.mono hsz));have HO2:=zH (qG HO.out hb (qi HO.out));obtain⟨A2,c2,rfl,hl2,g1,g2⟩:=kM ho;have HL2:=zH hl2;have hsz2:=HX2.out.size;clear hb ho hl2)
     |(go_at_call 61;(with_reducible refine(QV _ _ _ _ _ _ hUl HL2.out).mono ?_);rintro e w' ⟨he,rfl⟩;rw[HB.out]at he;subst he;obtain⟨q0,q1,q2,q3,q4,q5,q6⟩:=HBX.out.keep HX2.out HZ.out))
    go_roundw;case rel=>exact⟨k+1,by omega,by go_num,zH (by rw[HST1.out];exact HO2.out),HX2⟩
    case measure=>simp[intOf];omega
   ·have e1:je sup c (k+1)=L++[(k:Int)]:=HST.out;have HST1:=zH e1;clear e1 HST;go_wp2_with(first
     |(go_at_call 54;(with_reducible refine(q4r HSl hn' HU HSw).mono ?_);rintro e w2 ⟨v2,rfl,ho,hb⟩;have HX2:=zH (HX.out.trans (hb.mono hsz));have HO2:=zH (qG HO.out hb (qi HO.out));obtain⟨A2,c2,rfl,hl2,g1,g2⟩:=kM ho;have HL2:=zH hl2;have hsz2:=HX2.out.size;clear hb ho hl2)
     |(go_at_call 61;(with_reducible refine(QV _ _ _ _ _ _ hUl HL2.out).mono ?_);rintro e w' ⟨he,rfl⟩;rw[HB.out]at he;subst he;obtain⟨q0,q1,q2,q3,q4,q5,q6⟩:=HBX.out.keep HX2.out HZ.out)
     |(at_builtin;refine wpList_append_own _ rfl _ _ 26 rfl w1.heap.size 3 i0 (.int .i64 0) 1 8 Tryz.underlying26 hi hz0 hz1 hz2 rfl (by decide) _ _ _ rfl (HO2.out.alloc _) ⟨_,0,none⟩ 1 1 [.int .i64 (k:Int)] rfl rfl (Vu _ _) (Vo _) (by unfold maxLen;omega) (by omega) (by simp;omega) ?_;intro v' w3 hown' hgrow _;have hR:=Jt HO2.out hsz2 HX2.out hown' hgrow;have HO3:=zH hR.1;have HX3:=zH hR.2;clear hown' hgrow hR))
    go_roundw;case rel=>exact⟨k+1,by omega,by go_num,zH (by rw[HST1.out];exact HO3.out),HX3⟩
    case measure=>simp[intOf];omega
  ·obtain rfl:k=m.classes.length:=by omega
   go_wp2_with fail
   go_ret;refine⟨_,rfl,?_,HW.out.trans (HX.out.mono HW.out.size)⟩;rw[HE.out];exact jI HO.out HW.out.size
section
variable{m:za}{h:zl}{w0 w:World}{c:Int}
theorem qkx{L:List Int}(HI:Hid (zp w0 w0.heap.size h m))(HX:Hid (Below w0.heap.size w0 w))(HL:Hid (Ze m.classes c=L))(hn:m.classes.length≤1000):
  Calls Tryz.prog 55 #[zr h m,.int .i64 c] w (vO L w):=by
 have H:=qgx m c h w (HI.out.now HX.out) hn;rw[HL.out]at H;exact H
end
theorem q8p{sup:List Int}{k n k' n' k'' n'':Int}(h:zG sup k n k' n'=true)(g:zG sup k' n' k'' n''=true):zG sup k n k'' n''=true:=by
 rw[vM]at*
 rcases h with⟨rfl,h⟩|⟨rfl,rfl,h⟩|⟨h0,rfl,rfl⟩
 ·rcases g with⟨rfl,g⟩|⟨rfl,rfl,g⟩|⟨g0,rfl,rfl⟩
  ·exact .inl ⟨rfl,g⟩
  ·exact .inl ⟨rfl,by omega⟩
  ·exact .inl ⟨rfl,h⟩
 ·rcases g with⟨h4,_⟩|⟨_,rfl,g⟩|⟨g0,_,_⟩
  ·omega
  ·exact .inr (.inl ⟨rfl,rfl,qfy h g⟩)
  ·omega
 ·exact g
def q0i(sup:List Int)(k n:Int):Prop:=k=3→0≤n∧n<sup.length
theorem Yh{sup:List Int}{k n:Int}(hk:k=1∨k=2∨k=3∨k=4)(ht:q0i sup k n):zG sup k n k n=true:=by
 rw[vM];rcases hk with rfl|rfl|rfl|rfl
 ·exact .inr (.inr ⟨.inl rfl,rfl,rfl⟩)
 ·exact .inr (.inr ⟨.inr rfl,rfl,rfl⟩)
 ·exact .inr (.inl ⟨rfl,rfl,q1m (ht rfl).1 (ht rfl).2⟩)
 ·exact .inl ⟨rfl,by omega⟩
theorem q9x{sup:List Int}{k n k' n':Int}(h:zG sup k n k' n'=true):(k=1∨k=2∨k=3∨k=4)∧(k'=1∨k'=2∨k'=3∨k'=4):=by
 rw[vM]at h;omega
def upW(O:List Int)(t:Int×Int×Int):Int:=if atI O t.2.1+t.2.2>oN O t.1.toNat then atI O t.2.1+t.2.2 else oN O t.1.toNat
def Qq(O:List Int)(t:Int×Int×Int):List Int:=O.set t.1.toNat (upW O t)
def Qu(l:List (Int×Int×Int))(O:List Int):List Int:=l.foldl Qq O
def Vt(l:List (Int×Int×Int)):Nat→List Int→List Int
 |0,O=>O
 |k+1,O=>Qu l.reverse (Vt l k O)
def ZS(l:List (Int×Int×Int))(n:Nat):List Int:=Vt l n (List.replicate n 0)
theorem qif(l:List (Int×Int×Int))(t:Int×Int×Int)(O:List Int):Qu (l++[t]) O=Qq (Qu l O) t:=by unfold Qu;rw[List.foldl_append];rfl
structure Zj(l:List (Int×Int×Int))(n:Nat):Prop where
 src:∀t ∈l,0≤t.1∧t.1<n
 cost:∀t ∈l,0≤t.2.2∧t.2.2≤1000001
 none:∀t ∈l,t.2.1<0→t.2.2=0
structure jT(l:List (Int×Int×Int))(n:Nat)(O:List Int)(K:Nat):Prop where
 len:O.length=n
 low:∀p,0≤oN O p
 top:∀p,oN O p≤(K:Int)*1000001
 want:∀p:Nat,oN O p≠0→∃(q:Nat) (c:Int),((p:Int),(q:Int),c) ∈l∧(q≠p∨0<c)∧oN O p≤oN O q+c
theorem q62(n p:Nat):oN (List.replicate n 0) p=0:=by
 unfold oN;rw[List.getElem?_replicate];split<;>rfl
section
variable{l:List (Int×Int×Int)}{n K:Nat}{O:List Int}
theorem jT.start(l:List (Int×Int×Int))(n:Nat):jT l n (List.replicate n 0) 0:=
 ⟨List.length_replicate ..,fun p=>by rw[q62];exact Int.le_refl _,fun p=>by rw[q62];omega,fun p h=>absurd (q62 n p) h⟩
theorem jT.at_low(h:jT l n O K)(i:Int):0≤atI O i∧atI O i≤(K:Int)*1000001:=by
 unfold atI;split
 ·have:=h.top 0;have:=h.low 0;omega
 ·exact⟨h.low _,h.top _⟩
theorem jT.more(h:jT l n O K){M:Nat}(hM:K≤M):jT l n O M:=⟨h.len,h.low,fun p=>by have:=h.top p;omega,h.want⟩
theorem jT.step(h:jT l n O K)(hl:Zj l n){t:Int×Int×Int}(ht:t ∈l):jT l n (Qq O t) (K+1):=by
 obtain⟨a,b,c⟩:=t;obtain⟨h1,h2⟩:=hl.src _ ht;obtain⟨h3,h4⟩:=hl.cost _ ht;have h5:=hl.none _ ht;dsimp only at h1 h2 h3 h4 h5;obtain⟨p,rfl⟩:=Int.eq_ofNat_of_zero_le h1;have hp:p<O.length:=by rw[h.len];omega
 by_cases hu:atI O b+c>oN O p;rotate_left
 ·have e:Qq O ((p:Int),b,c)=O:=by
   unfold Qq upW;dsimp only;rw[Int.toNat_natCast,if_neg hu,Qs hp,List.set_getElem_self]
  rw[e];exact h.more (by omega)
 have e:Qq O ((p:Int),b,c)=O.set p (atI O b+c):=by
  unfold Qq upW;dsimp only;rw[Int.toNat_natCast,if_pos hu]
 have hb:¬b<0:=fun hb=>by
  have:=h5 hb;have e2:atI O b=0:=by unfold atI;rw[if_pos hb]
  have:=h.low p;omega
 obtain⟨q,rfl⟩:=Int.eq_ofNat_of_zero_le (show 0≤b by omega);rw[e];rw[q6b]at hu⊢
 obtain⟨v,hv⟩:∃v,oN O q+c=v:=⟨_,rfl⟩
 rw[hv]at hu⊢
 have hq:=h.low q;have hqt:=h.top q;have hat:∀x,oN (O.set p v) x=if x=p then v else oN O x:=fun x=>qdf hp
 have hup:∀x,oN O x≤oN (O.set p v) x:=fun x=>by
  rw[hat];split
  ·rename_i e;subst e;omega
  ·exact Int.le_refl _
 refine⟨by rw[List.length_set];exact h.len,fun x=>by have:=hup x;have:=h.low x;omega,fun x=> ?_,fun x hx=> ?_⟩
 ·rw[hat];split
  ·omega
  ·have:=h.top x;omega
 ·by_cases ex:x=p
  ·subst ex;refine⟨q,c,ht,?_,?_⟩
   ·by_cases eq:q=x
    ·subst eq;right;omega
    ·exact .inl eq
   ·have:=hup q;rw[hat x,if_pos rfl];omega
  ·rw[hat x,if_neg ex]at hx⊢
   obtain⟨q',c',g1,g2,g3⟩:=h.want x hx;exact⟨q',c',g1,g2,by have:=hup q';omega⟩
theorem jT.fold(hl:Zj l n):∀(L:List (Int×Int×Int)) (O:List Int) (K:Nat),(∀t ∈L,t ∈l)→jT l n O K→jT l n (Qu L O) (K+L.length)
 | [],O,K,_,h=>h
 |t::L,O,K,hL,h=>by
  have:=jT.fold hl L (Qq O t) (K+1) (fun x hx=>hL x (List.mem_cons_of_mem _ hx)) (h.step hl (hL t List.mem_cons_self));rw[List.length_cons,show K+(L.length+1)=K+1+L.length by omega];exact this
theorem jT.rounds(hl:Zj l n):∀(k:Nat),jT l n (Vt l k (List.replicate n 0)) (k*l.length)
 |0=>by rw[Nat.zero_mul];exact jT.start l n
 |k+1=>by
  have:=jT.fold hl l.reverse _ _ (fun t ht=>List.mem_reverse.mp ht) (jT.rounds hl k);rw[List.length_reverse]at this;rw[Nat.add_mul,Nat.one_mul];exact this
theorem q5t(hl:Zj l n):jT l n (ZS l n) (n*l.length):=jT.rounds hl n
end
def vT(sup:List Int)(c:Int):Int:=match sup[c.toNat]? with
 |some s=>if 0≤s∧s<c then s else -1
 |none=> -1
theorem qhz(sup:List Int)(c:Int)(h0:0≤c)(h1:c<sup.length)(A:Option Addr)(cap B:Nat)(w:World)(hl:sup.length≤1048576)(h:jr w B A sup):
  Calls Tryz.prog 137 #[.slice A sup.length cap,.int .i64 c] w fun e w'=>e= .returned (.int .i64 (vT sup c))∧w=w':=by
 obtain⟨K,rfl⟩:=Int.eq_ofNat_of_zero_le h0;have hlt:K<sup.length:=by omega
 have hs0:=List.getElem?_eq_getElem hlt;obtain⟨ad,rfl,hab,hc⟩:=h K _ hs0;have E:=zH (show vT sup (K:Int)=if 0≤sup[K]∧sup[K]<(K:Int)then sup[K]else -1 by unfold vT;rw[Int.toNat_natCast,hs0]);clear hs0 h;generalize sup[K]=s at*
 by_cases g:0≤s∧s<(K:Int)
 ·have E2:=zH (show vT sup (K:Int)=s by rw[E.out,if_pos g]);clear E;obtain⟨g0,g1⟩:=g;go_enter Tryz.func137,Tryz.ntmps137;go_wp2_with fail
  go_ret;rw[E2.out];exact⟨rfl,rfl⟩
 ·have E2:=zH (show vT sup (K:Int)= -1 by rw[E.out,if_neg g]);clear E;by_cases g0:0≤s
  ·have g1:¬s<(K:Int):=by omega
   clear g;go_enter Tryz.func137,Tryz.ntmps137;go_wp2_with fail
   go_ret;rw[E2.out];exact⟨rfl,rfl⟩
  ·clear g;go_enter Tryz.func137,Tryz.ntmps137;go_wp2_with fail
   go_ret;rw[E2.out];exact⟨rfl,rfl⟩
def Qm(sup:List Int)(c:Int):Bool:=decide (0≤c∧c<sup.length)
theorem VH(sup:List Int)(c:Int)(A:Option Addr)(cap:Nat)(w:World)(hl:sup.length≤1048576):
  Calls Tryz.prog 136 #[.slice A sup.length cap,.int .i64 c] w fun e w'=>e= .returned (.bool (Qm sup c))∧w=w':=by
 by_cases h0:0≤c
 ·by_cases h1:c<sup.length
  ·have E:=zH (show Qm sup c=true from decide_eq_true ⟨h0,h1⟩);go_enter Tryz.func136,Tryz.ntmps136;go_wp2_with fail
   go_ret;rw[E.out];exact⟨by first|rfl|simp[h1],rfl⟩
  ·have E:=zH (show Qm sup c=false from decide_eq_false (by omega));go_enter Tryz.func136,Tryz.ntmps136;go_wp2_with fail
   go_ret;rw[E.out];exact⟨by first|rfl|simp[h1],rfl⟩
 ·have E:=zH (show Qm sup c=false from decide_eq_false (by omega));go_enter Tryz.func136,Tryz.ntmps136;go_wp2_with fail
  go_ret;rw[E.out];exact⟨by first|rfl|simp[h0],rfl⟩
theorem q3f(sup:List Int)(c:Int): -1≤vT sup c∧(0≤c→vT sup c<c):=by
 unfold vT;split
 ·split<;>omega
 ·exact⟨by omega,fun h=>by omega⟩
theorem q5b{sup:List Int}{c:Int}(h0:0≤c)(h1:c<sup.length):zA sup c=c::zA sup (vT sup c):=by
 obtain⟨s,hs⟩:=q27 h0 h1;rw[VU h0 hs];unfold vT;rw[hs];dsimp only;by_cases g:s<c
 ·rw[if_pos g];by_cases g0:0≤s
  ·rw[if_pos ⟨g0,g⟩]
  ·rw[if_neg (by omega),Ju (.inl (by omega)),Ju (.inl (by omega))]
 ·rw[if_neg g,if_neg (by omega),Ju (.inl (by omega))]
theorem q9n{sup:List Int}{c:Int}(h:Qm sup c=true):0≤c∧c<sup.length:=of_decide_eq_true h
theorem q8e{sup:List Int}{c:Int}(h:¬Qm sup c=true):c<0∨(sup.length:Int)≤c:=by
 unfold Qm at h;simp at h;omega
theorem q6n{l:List Int}{n:Int}(h:n ∉l):qc l n=false:=decide_eq_false h
theorem q9a(sup:List Int)(a b:Int)(A:Option Addr)(cap B:Nat)(w:World)(hl:sup.length≤1048576)(hB:B≤w.heap.size)(h:jr w B A sup):
  Calls Tryz.prog 125 #[.slice A sup.length cap,.int .i64 a,.int .i64 b] w fun e w'=>e= .returned (.bool (qc (zA sup a) b))∧Below w.heap.size w w':=by
 have HS:=zH h;clear h;by_cases ha:Qm sup a=true
 ·by_cases hb:Qm sup b=true
  ·obtain⟨a0,a1⟩:=q9n ha;obtain⟨b0,b1⟩:=q9n hb;have HA:=zH ha;have HB:=zH hb;clear ha hb;go_enter Tryz.func125,Tryz.ntmps125;go_wp2_with(first
    |(go_at_call 136;(with_reducible refine(VH sup a A cap w hl).mono ?_);rintro e w' ⟨he,rfl⟩;rw[HA.out]at he;subst he)
    |(go_at_call 136;(with_reducible refine(VH sup b A cap w hl).mono ?_);rintro e w' ⟨he,rfl⟩;rw[HB.out]at he;subst he))
   go_loop [1] (fun i=>∃c:Int,i= .int .i64 c∧ -1≤c∧c<sup.length∧qc (zA sup a) b=qc (zA sup c) b) (fun i=>(intOf i+1).toNat)
   case atStart=>exact⟨a,rfl,by omega,a1,rfl⟩
   case round=>
    obtain⟨c,rfl,c0,c1,hn⟩:=hrel;have HN:=zH hn;clear hn;by_cases hcb:b<c
    ·have R:=zH (show qc (zA sup a) b=qc (zA sup (vT sup c)) b by
      rw[HN.out,q5b (by omega) c1];unfold qc;simp only[List.mem_cons];rw[decide_eq_decide];constructor
      ·rintro(g|g)
       ·omega
       ·exact g
      ·exact .inr)
     have hc0:0≤c:=by omega
     have hs:=q3f sup c;clear HN;go_wp2_with(go_at_call 137;(with_reducible refine(qhz sup c hc0 c1 A cap B w hl HS.out).mono ?_);rintro e w' ⟨rfl,rfl⟩)
     go_round
     case rel=>exact⟨vT sup c,rfl,hs.1,by have:=hs.2 hc0;omega,R.out⟩
     case measure=>have:=hs.2 hc0;simp[intOf];omega
    ·by_cases hc:c=b
     ·have R:=zH (show qc (zA sup a) b=true by rw[HN.out,hc];exact QE.mpr (q1m b0 b1));clear HN;go_wp2_with fail
      go_ret;rw[R.out];exact⟨by first|rfl|simp[hc],zb _ _⟩
     ·have R:=zH (show qc (zA sup a) b=false by rw[HN.out];exact q6n (fun g=>by have:=Qg g;omega));clear HN;go_wp2_with fail
      go_ret;rw[R.out];exact⟨by first|rfl|simp[hc],zb _ _⟩
  ·have HA:=zH ha;have HB:=zH (show Qm sup b=false by simpa using hb);have R:=zH (show qc (zA sup a) b=false from q6n (fun g=>by have:=Qg g;have:=q8e hb;omega));clear ha hb;go_enter Tryz.func125,Tryz.ntmps125;go_wp2_with(first
    |(go_at_call 136;(with_reducible refine(VH sup a A cap w hl).mono ?_);rintro e w' ⟨he,rfl⟩;rw[HA.out]at he;subst he)
    |(go_at_call 136;(with_reducible refine(VH sup b A cap w hl).mono ?_);rintro e w' ⟨he,rfl⟩;rw[HB.out]at he;subst he))
   go_ret;rw[R.out];exact⟨rfl,zb _ _⟩
 ·have HA:=zH (show Qm sup a=false by simpa using ha);have R:=zH (show qc (zA sup a) b=false from q6n (fun g=>by have:=Qg g;have:=q8e ha;omega));clear ha;go_enter Tryz.func125,Tryz.ntmps125;go_wp2_with(go_at_call 136;(with_reducible refine(VH sup a A cap w hl).mono ?_);rintro e w' ⟨he,rfl⟩;rw[HA.out]at he;subst he)
  go_ret;rw[R.out];exact⟨rfl,zb _ _⟩
theorem q5a(k n cap:Nat)(ad:Addr)(s:Int)(A1 A2:Option Addr)(n1 c1 n2 c2:Nat)(w:World)(hk:k<n)(hn:n≤9223372036854775807)(hab:ad.block<w.heap.size)
  (r0:w.cell? (ad.add (k*3))=some (.int .i64 s)) (r1:w.cell? (zc (ad.add (k*3)) 1)=some (.slice A1 n1 c1)) (r2:w.cell? (zc (ad.add (k*3)) 2)=some (.slice A2 n2 c2)):
  Calls Tryz.prog 124 #[.slice (some ad) n cap,.int .i64 k] w fun e w'=>e= .returned (.tuple #[.agg #[.int .i64 s,.slice A1 n1 c1,.slice A2 n2 c2],.bool true])∧Below w.heap.size w w':=by
 have HW:=zH ((zb w.heap.size w).alloc (zn _) (.cells #[.int .i64 0,.slice none 0 0,.slice none 0 0] 90));have r0:=(HW.out.cell (p:=ad.add (k*3)) (by rw[zt];exact hab)).trans r0;have r1:=(HW.out.cell (p:=zc (ad.add (k*3)) 1) (by show(ad.add _).block<_;rw[zt];exact hab)).trans r1;have r2:=(HW.out.cell (p:=zc (ad.add (k*3)) 2) (by show(ad.add _).block<_;rw[zt];exact hab)).trans r2;go_enter Tryz.func124,Tryz.ntmps124;go_wp2
 exact bodyPost_ret (v:= .tuple #[.agg #[.int .i64 s,.slice A1 n1 c1,.slice A2 n2 c2],.bool true]) (by simp[results,Tryz.results124,go_sem]) rfl ⟨rfl,(zb _ _).alloc (zn _) _⟩
theorem q87{P:Prop}(h:P:=by
 go_enter Tryz.func124,Tryz.ntmps124;go_wp2
 exact bodyPost_ret (v:= .tuple #[.agg #[.int .i64 0,.slice none 0 0,.slice none 0 0],.bool false]) (by simp[results,Tryz.results124,go_sem]) rfl ⟨rfl,((zb _ _).alloc (zn _) _).alloc (by simp) _⟩):P:=h
theorem qcg(k:Int)(n cap:Nat)(A:Option Addr)(w:World)(hn:n≤9223372036854775807)(hk:k<0∨(n:Int)≤k):
  Calls Tryz.prog 124 #[.slice A n cap,.int .i64 k] w fun e w'=>e= .returned (.tuple #[.agg #[.int .i64 0,.slice none 0 0,.slice none 0 0],.bool false])∧Below w.heap.size w w':=by
 by_cases h0:k<0
 ·clear hk;exact q87
 ·have h1:(n:Int)≤k:=by omega
  have h2:0≤k:=by omega
  clear hk h0;exact q87
theorem qne(k n cap:Nat)(ad:Addr)(z:Int)(w:World)(hk:k<n)(hn:n≤9223372036854775807)(r0:w.cell? (ad.add k)=some (.int .i64 z)):
  Calls Tryz.prog 139 #[.slice (some ad) n cap,.int .i64 k] w fun e w'=>e= .returned (.tuple #[.int .i64 z,.bool true])∧w=w':=by
 go_enter Tryz.func139,Tryz.ntmps139;go_wp2
 go_ret2
 exact⟨rfl,rfl⟩
theorem qcf(k:Int)(n cap:Nat)(A:Option Addr)(w:World)(hn:n≤9223372036854775807)(hk:k<0∨(n:Int)≤k):
  Calls Tryz.prog 139 #[.slice A n cap,.int .i64 k] w fun e w'=>e= .returned (.tuple #[.int .i64 0,.bool false])∧Below w.heap.size w w':=by
 by_cases h0:k<0
 ·clear hk;go_enter Tryz.func139,Tryz.ntmps139;go_wp2
  go_ret2
  exact⟨rfl,by first|exact zb _ _|exact(zb _ _).alloc (zn _) _⟩
 ·have h1:(n:Int)≤k:=by omega
  have h2:0≤k:=by omega
  clear hk h0;go_enter Tryz.func139,Tryz.ntmps139;go_wp2
  go_ret2
  exact⟨rfl,by first|exact zb _ _|exact(zb _ _).alloc (zn _) _⟩
theorem q88(cl:List qv)(k:Nat)(hk:k<cl.length)(A:Option Addr)(cap:Nat)(w:World)(h:zd jc 3 w w.heap.size A cap cl):
  Calls Tryz.prog 104 #[.slice A cl.length cap,.int .i64 k] w fun e w'=>e= .returned (.bool true)∧Below w.heap.size w w':=by
 have h1:=h.le;have h2:=h.cap;obtain⟨ad,rfl,hab,r0,⟨A1,k1,r1,_⟩,⟨A2,k2,r2,_⟩,_⟩:=h.row.at_ hk;clear h;have hn:cl.length≤9223372036854775807:=by omega
 generalize cl[k]=x at*
 generalize cl.length=n at*
 go_enter Tryz.func104,Tryz.ntmps104;go_wp2_with(go_at_call 124;(with_reducible refine(q5a k n cap ad _ _ _ _ _ _ _ w hk hn hab r0 r1 r2).mono ?_);rintro e w' ⟨rfl,hb⟩;have HB:=zH hb;clear hb)
 go_ret;exact⟨rfl,by first|exact HB.out|exact HB.out.alloc HB.out.size _⟩
theorem q9b(cl:List qv)(k:Int)(hk:k<0∨(cl.length:Int)≤k)(A:Option Addr)(cap:Nat)(w:World)(h:zd jc 3 w w.heap.size A cap cl):
  Calls Tryz.prog 104 #[.slice A cl.length cap,.int .i64 k] w fun e w'=>e= .returned (.bool false)∧Below w.heap.size w w':=by
 have h1:=h.le;have h2:=h.cap;have hn:cl.length≤9223372036854775807:=by omega
 clear h;generalize cl.length=n at*
 go_enter Tryz.func104,Tryz.ntmps104;go_wp2_with(go_at_call 124;(with_reducible refine(qcg k n cap A w hn hk).mono ?_);rintro e w' ⟨rfl,hb⟩;have HB:=zH hb;clear hb)
 go_ret;exact⟨rfl,by first|exact HB.out|exact HB.out.alloc HB.out.size _⟩
theorem qn2(m:za)(c n:Int)(h:zl)(w:World)(H:zp w w.heap.size h m):
  Calls Tryz.prog 127 #[zr h m,.int .i64 c,.int .i64 n] w (q2o (vb m.classes c n) w):=by
 have HW:=zH ((zb w.heap.size w).alloc (zn _) (zq h m));have HIM:=zH (H.now HW.out);have HBX:=zH (qf w h m);have hle:=H.classes.le;have hcap:=H.classes.cap;have hn63:m.classes.length≤9223372036854775807:=by omega
 clear H hle hcap;by_cases hc:0≤c∧c<m.classes.length
 ·obtain⟨c0,c1⟩:=hc;obtain⟨i,rfl⟩:=Int.eq_ofNat_of_zero_le c0;have hi:i<m.classes.length:=by omega
  obtain⟨ad,e0,hab,s0,⟨A1,k1,s1,hs1⟩,⟨A2,k2,s2,hs2⟩,_⟩:=HIM.out.classes.row.at_ hi;have HE:=zH e0;clear e0;have l1:=hs2.le;have l2:=hs2.cap;have hs63:m.classes[i].slots.length≤9223372036854775807:=by omega
  have HSL:=zH hs2;clear hs1 hs2;by_cases hnn:0≤n∧n<m.classes[i].slots.length
  ·obtain⟨n0,n1⟩:=hnn;obtain⟨j,rfl⟩:=Int.eq_ofNat_of_zero_le n0;have hj:j<m.classes[i].slots.length:=by omega
   rw[q3u hi hj];obtain⟨ad2,rfl,hab2,z0⟩:=HSL.out.row.at_ hj;clear HSL;rw[Nat.mul_one]at z0;generalize m.classes[i].slots[j]=f at*
   generalize m.classes[i]=x at*
   go_enter Tryz.func127,Tryz.ntmps127;go_upto_region 1 with fail
   generalize w.alloc (zq h m)=w1 at*
   obtain⟨q0,q1,q2,q3,q4,q5,q6⟩:=HBX.out;rw[HE.out]at q0;have HZ:Hid (∀W,Below w1.heap.size w1 W→W.cell? (ad2.add j)=some (.int .i64 f)):=zH (fun W hW=>(hW.cell (p:=ad2.add j) (by rw[zt];exact hab2)).trans z0);go_upto_region 2 with(go_at_call 124;(with_reducible refine(q5a i m.classes.length h.c0 ad _ _ _ _ _ _ _ w1 hi hn63 hab s0 s1 s2).mono ?_);rintro e w2 ⟨rfl,hb⟩;have HB2:=zH hb;clear hb)
   have z2:=HZ.out _ (HB2.out.alloc HB2.out.size (.cells #[.int .i64 x.sup,.slice A1 x.fields.length k1,.slice (some ad2) x.slots.length k2] 90));go_wp2_with(go_at_call 139;(with_reducible refine(qne j x.slots.length k2 ad2 f _ hj hs63 z2).mono ?_);rintro e w3 ⟨rfl,rfl⟩)
   go_ret2
   exact⟨rfl,HW.out.trans ((HB2.out.alloc HB2.out.size _).mono HW.out.size)⟩
  ·rw[q7x hi (by omega)];have hno:n<0∨(m.classes[i].slots.length:Int)≤n:=by omega
   clear hnn HSL;generalize m.classes[i]=x at*
   go_enter Tryz.func127,Tryz.ntmps127;go_upto_region 1 with fail
   generalize w.alloc (zq h m)=w1 at*
   obtain⟨q0,q1,q2,q3,q4,q5,q6⟩:=HBX.out;rw[HE.out]at q0;go_upto_region 2 with(go_at_call 124;(with_reducible refine(q5a i m.classes.length h.c0 ad _ _ _ _ _ _ _ w1 hi hn63 hab s0 s1 s2).mono ?_);rintro e w2 ⟨rfl,hb⟩;have HB2:=zH hb;clear hb)
   go_wp2_with(go_at_call 139;(with_reducible refine(qcf n x.slots.length k2 A2 _ hs63 hno).mono ?_);rintro e w3 ⟨rfl,hb⟩;have HB3:=zH hb;clear hb)
   go_ret2
   exact⟨rfl,HW.out.trans (((HB2.out.alloc HB2.out.size _).trans (HB3.out.mono (HB2.out.alloc HB2.out.size _).size)).mono HW.out.size)⟩
 ·have hno:c<0∨(m.classes.length:Int)≤c:=by omega
  rw[q74 hno];have hz:n<0∨((0:Nat):Int)≤n:=by omega
  clear hc;go_enter Tryz.func127,Tryz.ntmps127;go_upto_region 1 with fail
  generalize w.alloc (zq h m)=w1 at*
  obtain⟨q0,q1,q2,q3,q4,q5,q6⟩:=HBX.out;go_upto_region 2 with(go_at_call 124;(with_reducible refine(qcg c m.classes.length h.c0 h.A0 w1 hn63 hno).mono ?_);rintro e w2 ⟨rfl,hb⟩;have HB2:=zH hb;clear hb)
  go_wp2_with(go_at_call 139;(with_reducible refine(qcf n 0 0 none _ (by omega) hz).mono ?_);rintro e w3 ⟨rfl,hb⟩;have HB3:=zH hb;clear hb)
  go_ret2
  exact⟨rfl,HW.out.trans (((HB2.out.alloc HB2.out.size _).trans (HB3.out.mono (HB2.out.alloc HB2.out.size _).size)).mono HW.out.size)⟩
theorem q5v{m:za}{h:zl}{w0 w:World}{c n:Int}{o:Option Int}(HI:Hid (zp w0 w0.heap.size h m))(HX:Hid (Below w0.heap.size w0 w))(HO:Hid (vb m.classes c n=o)):
  Calls Tryz.prog 127 #[zr h m,.int .i64 c,.int .i64 n] w (q2o o w):=by
 have H:=qn2 m c n h w (HI.out.now HX.out);rw[HO.out]at H;exact H
theorem sup_in{sup:List Int}{c s:Int}(h0:0≤c)(hs:sup[c.toNat]? =some s):(¬s=c∧qc (zA sup c) s=true)↔(0≤s∧s<c):=by
 have h1:c<sup.length:=by
  rcases Nat.lt_or_ge c.toNat sup.length with g|g
  ·omega
  ·rw[List.getElem?_eq_none g]at hs;cases hs
 rw[QE];constructor
 ·rintro⟨hn,hm⟩;have:=Qg hm;omega
 ·rintro⟨g0,g1⟩;refine⟨by omega,?_⟩;rw[VU h0 hs,if_pos g1];exact List.mem_cons_of_mem _ (q1m g0 (by omega))
theorem qpy{sup:List Int}{c s:Int}(hs:sup[c.toNat]? =some s):vT sup c=if 0≤s∧s<c then s else -1:=by
 unfold vT;rw[hs]
theorem qjh(sup:List Int)(c:Int)(h0:0≤c)(h1:c<sup.length)(A:Option Addr)(cap B:Nat)(w:World)(hl:sup.length≤1048576)(hB:B≤w.heap.size)(h:jr w B A sup):
  Calls Tryz.prog 105 #[.slice A sup.length cap,.int .i64 c] w fun e w'=>e= .returned (.int .i64 (vT sup c))∧Below w.heap.size w w':=by
 obtain⟨K,rfl⟩:=Int.eq_ofNat_of_zero_le h0;have hlt:K<sup.length:=by omega
 have hs0:=List.getElem?_eq_getElem hlt;have HS:=zH h;obtain⟨ad,rfl,hab,hc⟩:=h K _ hs0;have E1:=zH (qpy (sup:=sup) (c:=(K:Int)) (s:=sup[K]) (by rw[Int.toNat_natCast];exact hs0));have E2:=zH (sup_in (sup:=sup) (c:=(K:Int)) (s:=sup[K]) h0 (by rw[Int.toNat_natCast];exact hs0));clear hs0 h;generalize sup[K]=s at*
 by_cases g:s=(K:Int)
 ·have E:=zH (show vT sup (K:Int)= -1 by rw[E1.out,if_neg (by omega)]);clear E1 E2;subst g;go_enter Tryz.func105,Tryz.ntmps105;go_wp2_with fail
  go_ret;rw[E.out];exact⟨rfl,zb _ _⟩
 ·have hne:((s:Int) !=(K:Int))=true:=by simpa using g
  obtain⟨r,hr⟩:∃r,qc (zA sup (K:Int)) s=r:=⟨_,rfl⟩
  have R:=zH hr;have E:=zH (show vT sup (K:Int)=if r=true then s else -1 by
   rw[E1.out,←hr];by_cases q:0≤s∧s<(K:Int)
   ·rw[if_pos q,if_pos (E2.out.mpr q).2]
   ·rw[if_neg q,if_neg (fun x=>q (E2.out.mp ⟨g,x⟩))])
  clear E1 E2 hr g;cases r;all_goals
   go_enter Tryz.func105,Tryz.ntmps105;go_wp2_with(go_at_call 125;(with_reducible refine(q9a sup (K:Int) s (some ad) cap B w hl hB HS.out).mono ?_);rintro e w' ⟨he,hb⟩;rw[R.out]at he;subst he)
   go_ret;rw[E.out];exact⟨by simp,hb⟩
theorem q59{sup:List Int}{c:Int}{n:Nat}(HN:Hid (sup.length=n))(h0:0≤c)(h1:c<sup.length)(A:Option Addr)(cap B:Nat)(w:World)(hl:sup.length≤1048576)(hB:B≤w.heap.size)(h:jr w B A sup):
  Calls Tryz.prog 105 #[.slice A n cap,.int .i64 c] w fun e w'=>e= .returned (.int .i64 (vT sup c))∧Below w.heap.size w w':=by
 obtain rfl:=HN.out;exact qjh sup c h0 h1 A cap B w hl hB h
set_option maxHeartbeats 1600000 in
theorem qju(cl:List qv)(c:Int)(A:Option Addr)(cap:Nat)(w:World)(hn:cl.length≤1048576)(h:zd jc 3 w w.heap.size A cap cl):
  Calls Tryz.prog 85 #[.slice A cl.length cap,.int .i64 c] w (vO (zA (zw cl) c) w):=by
 obtain⟨i0,hi,hz0,hz1,hz2⟩:=info_parts kp;have HC:=zH h;have HS:=zH (Jv h.row);clear h;by_cases hk:0≤c∧c<cl.length
 ·obtain⟨k0,k1⟩:=hk;obtain⟨K,rfl⟩:=Int.eq_ofNat_of_zero_le k0;have k1':K<cl.length:=by omega
  have hlen:(zw cl).length=cl.length:=vZ cl;obtain⟨sup,hsup⟩:∃sup,zw cl=sup:=⟨_,rfl⟩
  rw[hsup]at hlen HS⊢
  have HLN:=zH hlen;have hsl:sup.length≤1048576:=by omega
  have hkl:(K:Int)<sup.length:=by omega
  clear hsup;go_enter Tryz.func85,Tryz.ntmps85;clear hlen;go_wp2_with(go_at_call 104;(with_reducible refine(q88 cl K k1' A cap w HC.out).mono ?_);rintro e w1 ⟨rfl,hb⟩;have HB1:=zH hb;clear hb)
  go_loopw [1,5] (fun a v wr=>∃(C:Int) (pre:List Int),a= .int .i64 C∧ -1≤C∧C<sup.length∧Hid (pre++zA sup C=zA sup (K:Int))∧pre.length+C+1≤sup.length∧
    Hid (wr.ownsRow w.heap.size 3 1 v pre.length (pre.map (Value.int .i64)))∧Hid (Below w.heap.size w wr)) (fun a _ _=>(intOf a+1).toNat)
  case atStart=>exact⟨K,[],rfl,by omega,hkl,zH rfl,by simp;omega,zH (World.ownsRow_nil _ _ _ _),HB1⟩
  case round=>
   obtain⟨C,pre,rfl,c0,c1,HP,hp,HO,HX⟩:=hrel;by_cases hC:C= -1
   ·subst hC;go_wp2_with fail
    go_ret;refine⟨_,rfl,?_,HX.out⟩;have e:pre=zA sup (K:Int):=by rw[←HP.out,Ju (.inl (by omega))];simp
    rw[←e];exact HO.out
   ·have hC0:0≤C:=by omega
    have hCn:(C != -1)=true:=by simpa using hC
    have HST:=zH (q5b hC0 c1);have HBD:=zH (q3f sup C);have hsz:=HX.out.size;go_wp2_with(at_builtin;refine wpList_append_own _ rfl _ _ 26 rfl w.heap.size 3 i0 (.int .i64 0) 1 8 Tryz.underlying26 hi hz0 hz1 hz2 rfl (by decide) _ _ _ rfl (HO.out.alloc _) ⟨_,0,none⟩ 1 1 [.int .i64 C] rfl rfl ?c1 ?c2 ?c3 ?c4 ?c5 ?_)
    case c1=>
     intro j u hj
     match j,hj with
     |0,hj=>simp at hj;subst hj;simp[Addr.add]
    case c2=>intro u hu;simp at hu;subst hu;rfl
    case c3=>unfold maxLen;omega
    case c4=>omega
    case c5=>simp;omega
    intro v' w2 hown' hgrow _;have hR:=Jt HO.out hsz HX.out hown' hgrow;have HO2:=zH hR.1;have HX2:=zH hR.2;clear hown' hgrow hR;go_wp2_with(go_at_call 105;(with_reducible refine(q59 HLN hC0 c1 A cap w.heap.size _ hsl HX2.out.size (HS.out.below_to HX2.out (zn _))).mono ?_);rintro e w3 ⟨rfl,hb⟩;have HB3:=zH hb;clear hb)
    go_roundw;case rel=>
     have hbd:=HBD.out;have:=hbd.2 hC0;exact⟨vT sup C,pre++[C],rfl,hbd.1,by omega,zH (by rw[←HP.out,HST.out];simp),by simp;omega,zH (qG HO2.out HB3.out (qi HO2.out)),zH (HX2.out.trans (HB3.out.mono HX2.out.size))⟩
    case measure=>have:=HBD.out.2 hC0;have:=HBD.out.1;simp[intOf];omega
 ·have hk':c<0∨(cl.length:Int)≤c:=by omega
  have E:=zH (show zA (zw cl) c=[]from Ju (by rw[vZ];exact hk'));clear hk;rw[E.out];go_enter Tryz.func85,Tryz.ntmps85;go_wp2_with(go_at_call 104;(with_reducible refine(q9b cl c hk' A cap w HC.out).mono ?_);rintro e w1 ⟨rfl,hb⟩;have HB1:=zH hb;clear hb)
  go_ret;exact⟨_,rfl,World.ownsRow_nil _ _ _ _,HB1.out⟩
theorem qb4(k n cap:Nat)(ad:Addr)(x y:Int)(w:World)(hk:k<n)(hn:n≤9223372036854775807)(hab:ad.block<w.heap.size)
  (r0:w.cell? (ad.add (k*2))=some (.int .i64 x)) (r1:w.cell? (zc (ad.add (k*2)) 1)=some (.int .i64 y)):
  Calls Tryz.prog 151 #[.slice (some ad) n cap,.int .i64 k] w fun e w'=>e= .returned (.tuple #[zO x y,.bool true])∧Below w.heap.size w w':=by
 have HW:=zH ((zb w.heap.size w).alloc (zn _) (.cells #[.int .i64 0,.int .i64 0] 39));have r0:=(HW.out.cell (p:=ad.add (k*2)) (by rw[zt];exact hab)).trans r0;have r1:=(HW.out.cell (p:=zc (ad.add (k*2)) 1) (by show(ad.add _).block<_;rw[zt];exact hab)).trans r1;go_enter Tryz.func151,Tryz.ntmps151;go_wp2
 exact bodyPost_ret (v:= .tuple #[zO x y,.bool true]) (by simp[results,Tryz.results151,go_sem]) rfl ⟨rfl,(zb _ _).alloc (zn _) _⟩
theorem q6y{P:Prop}(h:P:=by
 go_enter Tryz.func151,Tryz.ntmps151;go_wp2
 exact bodyPost_ret (v:= .tuple #[zO 0 0,.bool false]) (by simp[results,Tryz.results151,go_sem]) rfl ⟨rfl,((zb _ _).alloc (zn _) _).alloc (by simp) _⟩):P:=h
theorem qce(k:Int)(n cap:Nat)(A:Option Addr)(w:World)(hn:n≤9223372036854775807)(hk:k<0∨(n:Int)≤k):
  Calls Tryz.prog 151 #[.slice A n cap,.int .i64 k] w fun e w'=>e= .returned (.tuple #[zO 0 0,.bool false])∧Below w.heap.size w w':=by
 by_cases h0:k<0
 ·clear hk;exact q6y
 ·have h1:(n:Int)≤k:=by omega
  have h2:0≤k:=by omega
  clear hk h0;exact q6y
theorem qeo{sup:List Int}{c k:Nat}(hc:c<k)(hk:k<sup.length):qc (zA sup (k:Int)) c=qc (je sup c k) (vT sup k):=by
 rw[Bool.eq_iff_iff,QE,QE,VT,QE,q5b (by omega) (by omega),List.mem_cons];have hb:=q3f sup (k:Int);constructor
 ·rintro(h|h)
  ·omega
  ·have hr:=Qg h;exact⟨by omega,by have:=hb.2 (by omega);omega,h⟩
 ·rintro⟨_,_,h⟩;exact .inr h
theorem qa1{l:List Int}{x:Int}{n:Nat}{b:Bool}{A:Option Addr}{cap:Nat}{w:World}(HN:Hid (l.length=n))(HB:Hid (qc l x=b))(hl:n≤1048576)(h:zz w w.heap.size A (l.map (Value.int .i64)))(hs:l.Pairwise (· < ·)):
  Calls Tryz.prog 138 #[.slice A n cap,.int .i64 x] w (qd9 b w):=by
 obtain rfl:=HN.out;have H:=qg9 l x A cap w hl h hs;rw[HB.out]at H;exact H
set_option maxHeartbeats 1600000 in
theorem qjf(m:za)(c:Int)(h:zl)(w:World)(H:zp w w.heap.size h m)(hn:m.classes.length≤1000):
  Calls Tryz.prog 126 #[zr h m,.int .i64 c] w (vO (Ze m.classes c) w):=by
 obtain⟨i0,hi,hz0,hz1,hz2⟩:=info_parts kp;have HW:=zH ((zb w.heap.size w).alloc (zn _) (zq h m));have HIM:=zH (H.now HW.out);have HBX:=zH (qf w h m);have HZ:Hid (w.heap.size<(w.alloc (zq h m)).heap.size):=zH (by simp);have HS:=zH (Jv HIM.out.classes.row);have hsl:(zw m.classes).length=m.classes.length:=vZ _;have hle:=H.classes.le;have hcap:=H.classes.cap;have HE:=zH (show Ze m.classes c=je (zw m.classes) c m.classes.length from rfl);obtain⟨sup,hsup⟩:∃sup,zw m.classes=sup:=⟨_,rfl⟩
 rw[hsup]at hsl HS HE;clear hsup H;by_cases hc:0≤c∧c<m.classes.length
 ·obtain⟨c0,c1⟩:=hc;obtain⟨i,rfl⟩:=Int.eq_ofNat_of_zero_le c0;have hil:i<m.classes.length:=by omega
  have HSELF:=zH (qen (sup:=sup) (c:=i) (by omega));have hsl1:sup.length≤1048576:=by omega
  have HSl:=zH hsl;clear hsl c0 c1;go_enter Tryz.func126,Tryz.ntmps126;go_upto_region 1 with fail
  generalize w.alloc (zq h m)=w1 at*
  obtain⟨q0,q1,q2,q3,q4,q5,q6⟩:=HBX.out;go_wp2_with(go_at_call 104;(with_reducible refine(q88 m.classes i hil h.A0 h.c0 w1 HIM.out.classes).mono ?_);rintro e w2 ⟨rfl,hb⟩;have HB2:=zH hb;clear hb)
  clear q0 q1 q2 q3 q4 q5 q6;have hs2:=HB2.out.size;go_loopw [5,6] (fun v s6 wr=>∃k:Nat,i<k∧k≤m.classes.length∧s6= .int .i64 k∧Hid (wr.ownsRow w1.heap.size 3 1 v (je sup (i:Int) k).length ((je sup (i:Int) k).map (Value.int .i64)))∧Hid (Below w1.heap.size w1 wr)) (fun _ s6 _=>m.classes.length - (intOf s6).toNat)
  case atStart=>
   refine⟨i+1,by omega,by omega,by go_num,zH ?_,zH (HB2.out.alloc hs2 _)⟩;rw[HSELF.out];exact⟨rfl,.inr ⟨w2.heap.size,1,#[.int .i64 (i:Int)],rfl,hs2,heap_alloc_new _ _,zn _,by unfold maxLen;omega,rfl,rfl⟩⟩
  case round=>
   obtain⟨k,hik,hk,rfl,HO,HX⟩:=hrel;obtain⟨q0,q1,q2,q3,q4,q5,q6⟩:=HBX.out.keep HX.out HZ.out;have hbl:=YS sup (i:Int) k;by_cases hlt:k<m.classes.length
   ·obtain⟨b,hb⟩:∃b,qc (zA sup k) (i:Int)=b:=⟨_,rfl⟩
    have HST:=zH (show je sup (i:Int) (k+1)=if b=true then je sup (i:Int) k++[(k:Int)]else je sup (i:Int) k by rw[←hb];rfl);have hks:k<sup.length:=by rw[HSl.out];exact hlt
    have hbn:=qeo hik hks;rw[hb]at hbn;have HBN:=zH hbn.symm;have HRI:=zH (q3b sup (i:Int) k);clear hb hbn;have HSr:=zH ((HS.out.below_to HX.out (zn _)):jr wr w1.heap.size h.A0 sup);generalize je sup (i:Int) k=L at*
    have hsz:=HX.out.size;have hk0:(0:Int)≤k:=by omega
    have hk1:(k:Int)<sup.length:=by omega
    have hLl:L.length≤1048576:=by omega
    obtain⟨Av,cv,rfl,hl0,g1,g2⟩:=kM HO.out;have HL0:=zH hl0;clear hl0;cases b
    ·have e1:je sup (i:Int) (k+1)=L:=HST.out;have HST1:=zH e1;clear e1 HST;go_wp2_with(first
      |(go_at_call 105;(with_reducible refine(q59 HSl hk0 hk1 h.A0 h.c0 w1.heap.size wr hsl1 hsz HSr.out).mono ?_);rintro e w2 ⟨rfl,hb⟩;have HX2:=zH (HX.out.trans (hb.mono hsz));have HO2:=zH (qG HO.out hb (qi HO.out));have HL2:=zH ((HL0.out.below hb).more hb.size);have hsz2:=HX2.out.size;clear hb)
      |(go_at_call 138;(with_reducible refine(qa1 (zH rfl) HBN hLl HL2.out HRI.out).mono ?_);rintro e w3 ⟨p,rfl,hb⟩;have HX3:=zH (HX2.out.trans (hb.mono hsz2));have HO3:=zH (qG HO2.out hb (qi HO2.out));have hsz3:=HX3.out.size;clear hb;obtain⟨q0,q1,q2,q3,q4,q5,q6⟩:=HBX.out.keep HX3.out HZ.out))
     go_roundw;case rel=>exact⟨k+1,by omega,by omega,by go_num,zH (by rw[HST1.out];exact HO3.out),HX3⟩
     case measure=>simp[intOf];omega
    ·have e1:je sup (i:Int) (k+1)=L++[(k:Int)]:=HST.out;have HST1:=zH e1;clear e1 HST;go_wp2_with(first
      |(go_at_call 105;(with_reducible refine(q59 HSl hk0 hk1 h.A0 h.c0 w1.heap.size wr hsl1 hsz HSr.out).mono ?_);rintro e w2 ⟨rfl,hb⟩;have HX2:=zH (HX.out.trans (hb.mono hsz));have HO2:=zH (qG HO.out hb (qi HO.out));have HL2:=zH ((HL0.out.below hb).more hb.size);have hsz2:=HX2.out.size;clear hb)
      |(go_at_call 138;(with_reducible refine(qa1 (zH rfl) HBN hLl HL2.out HRI.out).mono ?_);rintro e w3 ⟨p,rfl,hb⟩;have HX3:=zH (HX2.out.trans (hb.mono hsz2));have HO3:=zH (qG HO2.out hb (qi HO2.out));have hsz3:=HX3.out.size;clear hb;obtain⟨q0,q1,q2,q3,q4,q5,q6⟩:=HBX.out.keep HX3.out HZ.out)
      |(at_builtin;refine wpList_append_own _ rfl _ _ 26 rfl w1.heap.size 3 i0 (.int .i64 0) 1 8 Tryz.underlying26 hi hz0 hz1 hz2 rfl (by decide) _ _ _ rfl (HO3.out.alloc _) ⟨_,0,none⟩ 1 1 [.int .i64 (k:Int)] rfl rfl (Vu _ _) (Vo _) (by unfold maxLen;omega) (by omega) (by simp;omega) ?_;intro v' w4 hown' hgrow _;have hR:=Jt HO3.out hsz3 HX3.out hown' hgrow;have HO4:=zH hR.1;have HX4:=zH hR.2;clear hown' hgrow hR))
     go_roundw;case rel=>exact⟨k+1,by omega,by omega,by go_num,zH (by rw[HST1.out];exact HO4.out),HX4⟩
     case measure=>simp[intOf];omega
   ·obtain rfl:k=m.classes.length:=by omega
    go_wp2_with fail
    go_ret;refine⟨_,rfl,?_,HW.out.trans (HX.out.mono HW.out.size)⟩;rw[HE.out];exact jI HO.out HW.out.size
 ·have hno:c<0∨(m.classes.length:Int)≤c:=by omega
  have HE2:=zH (show Ze m.classes c=[]by rw[HE.out];exact qji (by omega) _ (by omega));clear hc hsl;go_enter Tryz.func126,Tryz.ntmps126;go_upto_region 1 with fail
  generalize w.alloc (zq h m)=w1 at*
  obtain⟨q0,q1,q2,q3,q4,q5,q6⟩:=HBX.out;go_wp2_with(go_at_call 104;(with_reducible refine(q9b m.classes c hno h.A0 h.c0 w1 HIM.out.classes).mono ?_);rintro e w2 ⟨rfl,hb⟩;have HB2:=zH hb;clear hb)
  go_ret;refine⟨_,rfl,?_,HW.out.trans (HB2.out.mono HW.out.size)⟩;rw[HE2.out];exact World.ownsRow_nil _ _ _ _
section
variable{m:za}{h:zl}{w0 w:World}{c:Int}
theorem qnd{L:List Int}(HI:Hid (zp w0 w0.heap.size h m))(HX:Hid (Below w0.heap.size w0 w))(HL:Hid (Ze m.classes c=L))(hn:m.classes.length≤1000):
  Calls Tryz.prog 126 #[zr h m,.int .i64 c] w (vO L w):=by
 have H:=qjf m c h w (HI.out.now HX.out) hn;rw[HL.out]at H;exact H
end
def qg(l:List Nat):List Value:=l.map (fun k:Nat=>Value.int .i64 (k:Int))
theorem JD(l:List Nat):(qg l).length=l.length:=List.length_map ..
theorem qak(l:List Nat)(v:Nat):qg (l++[v])=qg l++[.int .i64 (v:Int)]:=by unfold qg;rw[List.map_append];rfl
theorem qb9(f:Nat→Nat)(v b:Nat):(fun x=>((zU f v b x:Nat):Int))=zU (fun x=>(f x:Int)) v (b:Int):=funext fun x=>by
 unfold zU;split<;>rfl
theorem q6m(w:World)(v:Value)(T:TypeId):∀(j:Nat) (u:Value),[v][j]? =some u→(w.alloc (.cells #[v] T)).cell? ((⟨w.heap.size,0,none⟩:Addr).add j)=some u:=fun j u hj=>by
 match j,hj with
 |0,hj=>simp at hj;subst hj;simp[Addr.add]
 |j+1,hj=>simp at hj
structure qu(w w':World)(ρ:Nat→Nat)(r:Nat):Prop where
 os:w'.os=w.os
 tape:w'.tape=w.tape
 output:w'.output=w.output
 size:w.heap.size≤w'.heap.size
 block:∀b,b<w.heap.size→ρ b≠r→w'.heap[b]? =w.heap[b]?
theorem qu.refl{w:World}{ρ:Nat→Nat}{r:Nat}:qu w w ρ r:=⟨rfl,rfl,rfl,zn _,fun _ _ _=>rfl⟩
theorem qu.cell{w:World}{ρ:Nat→Nat}{r:Nat}{a:Addr}(h:ρ a.block=r)(v:Value):qu w (w.setCell a v) ρ r:=⟨rfl,rfl,rfl,by simp,fun b _ hr=>Below.heap_setCell w a v b (fun e=>hr (by rw[e];exact h))⟩
theorem qu.grown{w w':World}{ρ:Nat→Nat}{r:Nat}{row:Option Nat}(hg:w.grownBy w' row)(h:∀b,row=some b→ρ b=r):qu w w' ρ r:=⟨hg.os,hg.tape,hg.output,hg.size,fun b hb hr=>hg.block b hb (fun e=>hr (h b e.symm))⟩
theorem qu.below{w w':World}{ρ:Nat→Nat}{r:Nat}(h:Below w.heap.size w w'):qu w w' ρ r:=⟨h.os,h.tape,h.output,h.size,fun b hb _=>h.block b hb⟩
theorem qu.trans{w w1 w2:World}{ρ:Nat→Nat}{r:Nat}(h:qu w w1 ρ r)(h':qu w1 w2 ρ r):qu w w2 ρ r:=⟨h'.os.trans h.os,h'.tape.trans h.tape,h'.output.trans h.output,Nat.le_trans h.size h'.size,fun b hb hr=>(h'.block b (Nat.lt_of_lt_of_le hb h.size) hr).trans (h.block b hb hr)⟩
theorem qu.low{w w':World}{ρ:Nat→Nat}{r B:Nat}(h:qu w w' ρ r)(hl:∀b,b<B→ρ b=9)(hB:B≤w.heap.size)(hr:r≠9):Below B w w':=⟨h.os,h.tape,h.output,h.size,fun b hb=>h.block b (Nat.lt_of_lt_of_le hb hB) (by rw[hl b hb];exact fun e=>hr e.symm)⟩
theorem ki{w w':World}{ρ:Nat→Nat}{r g:Nat}{vs:List Value}{T:TypeId}(h:zf w g vs T)(hO:qu w w' ρ r)(hr:ρ g≠r):zf w' g vs T:=(hO.block g (zf.lt h) hr).trans h
theorem ky{w w':World}{ρ:Nat→Nat}{r B e k n:Nat}{v:Value}{xs:List Value}(h:w.ownsRow B e k v n xs)(hO:qu w w' ρ r)(hr:∀b,v.ownBlock=some b→ρ b≠r):w'.ownsRow B e k v n xs:=by
 have hlt:=qi h;refine⟨h.1,?_⟩;rcases h.2 with h0|⟨g,cap,cur,hv,hg,hh,rest⟩
 ·exact .inl h0
 ·exact .inr ⟨g,cap,cur,hv,hg,(hO.block g (hlt g (by rw[hv];rfl)) (hr g (by rw[hv];rfl))).trans hh,rest⟩
def JN(w:World)(B:Nat)(ρ:Nat→Nat)(v:Value)(c:List Nat):Prop:=∃gi ci rest,v= .slice (some ⟨gi,0,none⟩) c.length ci∧B≤gi∧ρ gi=7∧c.length≤ci∧ci≤9223372036854775807∧zf w gi (qg c++rest) 3
theorem JN.move{w w':World}{B r:Nat}{ρ ρ':Nat→Nat}{v:Value}{c:List Nat}(h:JN w B ρ v c)(hO:qu w w' ρ r)(hr:r≠7)(hρ:∀b,b<w.heap.size→ρ b≠r→ρ' b=ρ b):JN w' B ρ' v c:=by
 obtain⟨gi,ci,rest,h1,h2,h3,h4,h5,h6⟩:=h;have hn:ρ gi≠r:=by rw[h3];exact fun e=>hr e.symm
 exact⟨gi,ci,rest,h1,h2,by rw[hρ gi (zf.lt h6) hn];exact h3,h4,h5,ki h6 hO hn⟩
theorem qb8{w:World}{ρ:Nat→Nat}{N r:Nat}(hN:ρ N=r∨w.heap.size≤N):∀b,b<w.heap.size→ρ b≠r→zU ρ N r b=ρ b:=fun b hb hr=>by
 refine Zg _ _ (fun e=> ?_);subst e;rcases hN with q|q
 ·exact hr q
 ·omega
structure QO where
 gp:Nat
 gb:Nat
 gg:Nat
 E:Option Addr
 ce:Nat
 Ay:Option Addr
 cy:Nat
 Ao:Option Addr
 co:Nat
 Ap:Option Addr
 cp:Nat
 vs:List Value
abbrev wkV(S:Wk)(n:Nat)(a:QO):List Value:=[.slice a.E n a.ce,.int .i64 (S.met:Int),.slice (some ⟨a.gp,0,none⟩) n n,.slice (some ⟨a.gb,0,none⟩) n n,.slice (some ⟨a.gg,0,none⟩) n n,.slice a.Ay S.way.length a.cy,.slice a.Ao S.opn.length a.co,.slice a.Ap S.parts.length a.cp]
structure zI(w:World)(B g:Nat)(EL:List (List Int))(n:Nat)(S:Wk)(a:QO)(ρ:Nat→Nat):Prop where
 low:∀b,b<B→ρ b=9
 size:B≤w.heap.size
 len:EL.length=n
 n0:0≤n
 n1:n≤1048576
 edges:zd (qb zo 1) 1 w B a.E a.ce EL
 el:∀l ∈EL,l.length≤1048576
 blk:zf w g (wkV S n a) 117
 pl:zZ w a.gp (qz n (fun v=>(S.place v:Int)))
 bk:zZ w a.gb (qz n S.back)
 gn:zZ w a.gg (qz n (fun v=>(S.gone v:Int)))
 way:w.ownsRow B 3 1 (.slice a.Ay S.way.length a.cy) S.way.length (qg S.way)
 opn:w.ownsRow B 3 1 (.slice a.Ao S.opn.length a.co) S.opn.length (qg S.opn)
 prt:w.ownsRow B 26 1 (.slice a.Ap S.parts.length a.cp) S.parts.length a.vs
 pin:∀(i:Nat) (v:Value) (c:List Nat),a.vs[i]? =some v→S.parts[i]? =some c→JN w B ρ v c
 r0:ρ g=0
 r1:ρ a.gp=1
 r2:ρ a.gb=2
 r3:ρ a.gg=3
 r4:∀b,(Value.slice a.Ay S.way.length a.cy).ownBlock=some b→ρ b=4
 r5:∀b,(Value.slice a.Ao S.opn.length a.co).ownBlock=some b→ρ b=5
 r6:∀b,(Value.slice a.Ap S.parts.length a.cp).ownBlock=some b→ρ b=6
section
variable{w w':World}{B g n:Nat}{EL:List (List Int)}{S:Wk}{a:QO}{ρ ρ':Nat→Nat}
structure q0s(w:World)(B g:Nat)(EL:List (List Int))(n:Nat)(S:Wk)(a:QO)(ρ:Nat→Nat)(r:Nat):Prop where
 low:∀b,b<B→ρ b=9
 size:B≤w.heap.size
 edges:zd (qb zo 1) 1 w B a.E a.ce EL
 blk:r≠0→zf w g (wkV S n a) 117
 pl:r≠1→zZ w a.gp (qz n (fun v=>(S.place v:Int)))
 bk:r≠2→zZ w a.gb (qz n S.back)
 gn:r≠3→zZ w a.gg (qz n (fun v=>(S.gone v:Int)))
 way:r≠4→w.ownsRow B 3 1 (.slice a.Ay S.way.length a.cy) S.way.length (qg S.way)
 opn:r≠5→w.ownsRow B 3 1 (.slice a.Ao S.opn.length a.co) S.opn.length (qg S.opn)
 prt:r≠6→w.ownsRow B 26 1 (.slice a.Ap S.parts.length a.cp) S.parts.length a.vs
 pin:r≠7→∀(i:Nat) (v:Value) (c:List Nat),a.vs[i]? =some v→S.parts[i]? =some c→JN w B ρ v c
 r0:ρ g=0
 r1:ρ a.gp=1
 r2:ρ a.gb=2
 r3:ρ a.gg=3
 r4:r≠4→∀b,(Value.slice a.Ay S.way.length a.cy).ownBlock=some b→ρ b=4
 r5:r≠5→∀b,(Value.slice a.Ao S.opn.length a.co).ownBlock=some b→ρ b=5
 r6:r≠6→∀b,(Value.slice a.Ap S.parts.length a.cp).ownBlock=some b→ρ b=6
theorem zI.move(h:zI w B g EL n S a ρ){r:Nat}(hO:qu w w' ρ r)(hρ:∀b,b<w.heap.size→ρ b≠r→ρ' b=ρ b)(hr9:r≠9)(h0:ρ' g=0)(h1:ρ' a.gp=1)(h2:ρ' a.gb=2)(h3:ρ' a.gg=3):q0s w' B g EL n S a ρ' r where
 low:=fun b hb=>by rw[hρ b (Nat.lt_of_lt_of_le hb h.size) (by rw[h.low b hb];exact fun e=>hr9 e.symm)];exact h.low b hb
 size:=Nat.le_trans h.size hO.size
 edges:=h.edges.below_to (qb.keeps zo.keeps 1) (hO.low h.low h.size hr9) (zn _)
 blk:=fun hr=>ki h.blk hO (by rw[h.r0];exact fun e=>hr e.symm)
 pl:=fun hr=>ki h.pl hO (by rw[h.r1];exact fun e=>hr e.symm)
 bk:=fun hr=>ki h.bk hO (by rw[h.r2];exact fun e=>hr e.symm)
 gn:=fun hr=>ki h.gn hO (by rw[h.r3];exact fun e=>hr e.symm)
 way:=fun hr=>ky h.way hO (fun b hb=>by rw[h.r4 b hb];exact fun e=>hr e.symm)
 opn:=fun hr=>ky h.opn hO (fun b hb=>by rw[h.r5 b hb];exact fun e=>hr e.symm)
 prt:=fun hr=>ky h.prt hO (fun b hb=>by rw[h.r6 b hb];exact fun e=>hr e.symm)
 pin:=fun hr i v c hv hc=>(h.pin i v c hv hc).move hO hr hρ
 r0:=h0
 r1:=h1
 r2:=h2
 r3:=h3
 r4:=fun hr b hb=>by rw[hρ b (qi h.way b hb) (by rw[h.r4 b hb];exact fun e=>hr e.symm)];exact h.r4 b hb
 r5:=fun hr b hb=>by rw[hρ b (qi h.opn b hb) (by rw[h.r5 b hb];exact fun e=>hr e.symm)];exact h.r5 b hb
 r6:=fun hr b hb=>by rw[hρ b (qi h.prt b hb) (by rw[h.r6 b hb];exact fun e=>hr e.symm)];exact h.r6 b hb
theorem zI.roles(h:zI w B g EL n S a ρ):g<w.heap.size∧a.gp<w.heap.size∧a.gb<w.heap.size∧a.gg<w.heap.size:=⟨zf.lt h.blk,zf.lt h.pl,zf.lt h.bk,zf.lt h.gn⟩
theorem zI.moveU(h:zI w B g EL n S a ρ){r N:Nat}(hO:qu w w' ρ r)(hN:ρ N=r∨w.heap.size≤N)(hr:4≤r)(hr9:r≠9):q0s w' B g EL n S a (zU ρ N r) r:=by
 obtain⟨h0,h1,h2,h3⟩:=h.roles;have hu:=qb8 hN;refine h.move hO hu hr9 ?_ ?_ ?_ ?_
 ·rw[hu g h0 (by rw[h.r0];omega)];exact h.r0
 ·rw[hu _ h1 (by rw[h.r1];omega)];exact h.r1
 ·rw[hu _ h2 (by rw[h.r2];omega)];exact h.r2
 ·rw[hu _ h3 (by rw[h.r3];omega)];exact h.r3
theorem zI.moveS(h:zI w B g EL n S a ρ){r:Nat}(hO:qu w w' ρ r)(hr9:r≠9):q0s w' B g EL n S a ρ r:=h.move hO (fun _ _ _=>rfl) hr9 h.r0 h.r1 h.r2 h.r3
theorem zI.keep(h:zI w B g EL n S a ρ)(hb:Below w.heap.size w w'):zI w' B g EL n S a ρ:=
 let q:=h.moveS (r:=10) (qu.below hb) (by decide)
 ⟨q.low,q.size,h.len,h.n0,h.n1,q.edges,h.el,q.blk (by decide),q.pl (by decide),q.bk (by decide),q.gn (by decide),q.way (by decide),q.opn (by decide),q.prt (by decide),q.pin (by decide),q.r0,q.r1,q.r2,q.r3,q.r4 (by decide),q.r5 (by decide),q.r6 (by decide)⟩
theorem zI.place(h:zI w B g EL n S a ρ){v k:Nat}{z:Int}(hz:z=(k:Int)):zI (w.setCell ⟨a.gp,v,none⟩ (.int .i64 z)) B g EL n {S with place:=zU S.place v k} a ρ:=
 let q:=h.moveS (r:=1) (qu.cell (a:=⟨a.gp,v,none⟩) h.r1 (.int .i64 z)) (by decide)
 ⟨q.low,q.size,h.len,h.n0,h.n1,q.edges,h.el,q.blk (by decide),by have:=h.pl.set (t:=v) z;subst hz;rw[Yn,←qb9]at this;exact this,q.bk (by decide),q.gn (by decide),q.way (by decide),q.opn (by decide),q.prt (by decide),q.pin (by decide),q.r0,q.r1,q.r2,q.r3,q.r4 (by decide),q.r5 (by decide),q.r6 (by decide)⟩
theorem zI.back(h:zI w B g EL n S a ρ){v:Nat}{k:Int}:zI (w.setCell ⟨a.gb,v,none⟩ (.int .i64 k)) B g EL n {S with back:=zU S.back v k} a ρ:=
 let q:=h.moveS (r:=2) (qu.cell (a:=⟨a.gb,v,none⟩) h.r2 (.int .i64 k)) (by decide)
 ⟨q.low,q.size,h.len,h.n0,h.n1,q.edges,h.el,q.blk (by decide),q.pl (by decide),by have:=h.bk.set (t:=v) k;rw[Yn]at this;exact this,q.gn (by decide),q.way (by decide),q.opn (by decide),q.prt (by decide),q.pin (by decide),q.r0,q.r1,q.r2,q.r3,q.r4 (by decide),q.r5 (by decide),q.r6 (by decide)⟩
theorem zI.gone(h:zI w B g EL n S a ρ){v k:Nat}{z:Int}(hz:z=(k:Int)):zI (w.setCell ⟨a.gg,v,none⟩ (.int .i64 z)) B g EL n {S with gone:=zU S.gone v k} a ρ:=
 let q:=h.moveS (r:=3) (qu.cell (a:=⟨a.gg,v,none⟩) h.r3 (.int .i64 z)) (by decide)
 ⟨q.low,q.size,h.len,h.n0,h.n1,q.edges,h.el,q.blk (by decide),q.pl (by decide),q.bk (by decide),by have:=h.gn.set (t:=v) z;subst hz;rw[Yn,←qb9]at this;exact this,q.way (by decide),q.opn (by decide),q.prt (by decide),q.pin (by decide),q.r0,q.r1,q.r2,q.r3,q.r4 (by decide),q.r5 (by decide),q.r6 (by decide)⟩
theorem zI.met(h:zI w B g EL n S a ρ){k:Nat}{z:Int}(hz:z=(k:Int)):zI (w.setCell ⟨g,1,none⟩ (.int .i64 z)) B g EL n {S with met:=k} a ρ:=
 let q:=h.moveS (r:=0) (qu.cell (a:=⟨g,1,none⟩) h.r0 (.int .i64 z)) (by decide)
 ⟨q.low,q.size,h.len,h.n0,h.n1,q.edges,h.el,by have:=zf.set h.blk 1 (.int .i64 z);subst hz;exact this,q.pl (by decide),q.bk (by decide),q.gn (by decide),q.way (by decide),q.opn (by decide),q.prt (by decide),q.pin (by decide),q.r0,q.r1,q.r2,q.r3,q.r4 (by decide),q.r5 (by decide),q.r6 (by decide)⟩
theorem zI.way'(h:zI w B g EL n S a ρ){N:Nat}{A:Option Addr}{c:Nat}{W:List Nat}(hO:qu w w' ρ 4)(hN:ρ N=4∨w.heap.size≤N)(hA:∀b,(Value.slice A W.length c).ownBlock=some b→zU ρ N 4 b=4)(ho:w'.ownsRow B 3 1 (.slice A W.length c) W.length (qg W)):
  zI (w'.setCell ⟨g,5,none⟩ (.slice A W.length c)) B g EL n {S with way:=W} {a with Ay:=A,cy:=c} (zU ρ N 4):=by
 have p:=h.moveU hO hN (by decide) (by decide);have hO2:qu w' (w'.setCell ⟨g,5,none⟩ (.slice A W.length c)) (zU ρ N 4) 0:=qu.cell (a:=⟨g,5,none⟩) p.r0 _;have hi:zI (w'.setCell ⟨g,5,none⟩ (.slice A W.length c)) B g EL n {S with way:=W} {a with Ay:=A,cy:=c} (zU ρ N 4):=
  ⟨p.low,by have:=p.size;simpa using this,h.len,h.n0,h.n1,p.edges.below_to (qb.keeps zo.keeps 1) (hO2.low p.low p.size (by decide)) (zn _),h.el,by have:=zf.set (p.blk (by decide)) 5 (.slice A W.length c);exact this,
   ki (p.pl (by decide)) hO2 (by rw[p.r1];decide),ki (p.bk (by decide)) hO2 (by rw[p.r2];decide),ki (p.gn (by decide)) hO2 (by rw[p.r3];decide),ky ho hO2 (fun b hb=>by rw[hA b hb];decide),ky (p.opn (by decide)) hO2 (fun b hb=>by rw[p.r5 (by decide) b hb];decide),ky (p.prt (by decide)) hO2 (fun b hb=>by rw[p.r6 (by decide) b hb];decide),
   fun i v c hv hc=>(p.pin (by decide) i v c hv hc).move hO2 (by decide) (fun _ _ _=>rfl),p.r0,p.r1,p.r2,p.r3,hA,p.r5 (by decide),p.r6 (by decide)⟩
 exact hi
theorem zI.opn'(h:zI w B g EL n S a ρ){N:Nat}{A:Option Addr}{c:Nat}{W:List Nat}(hO:qu w w' ρ 5)(hN:ρ N=5∨w.heap.size≤N)(hA:∀b,(Value.slice A W.length c).ownBlock=some b→zU ρ N 5 b=5)(ho:w'.ownsRow B 3 1 (.slice A W.length c) W.length (qg W)):
  zI (w'.setCell ⟨g,6,none⟩ (.slice A W.length c)) B g EL n {S with opn:=W} {a with Ao:=A,co:=c} (zU ρ N 5):=by
 have p:=h.moveU hO hN (by decide) (by decide);have hO2:qu w' (w'.setCell ⟨g,6,none⟩ (.slice A W.length c)) (zU ρ N 5) 0:=qu.cell (a:=⟨g,6,none⟩) p.r0 _;have hi:zI (w'.setCell ⟨g,6,none⟩ (.slice A W.length c)) B g EL n {S with opn:=W} {a with Ao:=A,co:=c} (zU ρ N 5):=
  ⟨p.low,by have:=p.size;simpa using this,h.len,h.n0,h.n1,p.edges.below_to (qb.keeps zo.keeps 1) (hO2.low p.low p.size (by decide)) (zn _),h.el,by have:=zf.set (p.blk (by decide)) 6 (.slice A W.length c);exact this,
   ki (p.pl (by decide)) hO2 (by rw[p.r1];decide),ki (p.bk (by decide)) hO2 (by rw[p.r2];decide),ki (p.gn (by decide)) hO2 (by rw[p.r3];decide),ky (p.way (by decide)) hO2 (fun b hb=>by rw[p.r4 (by decide) b hb];decide),ky ho hO2 (fun b hb=>by rw[hA b hb];decide),ky (p.prt (by decide)) hO2 (fun b hb=>by rw[p.r6 (by decide) b hb];decide),
   fun i v c hv hc=>(p.pin (by decide) i v c hv hc).move hO2 (by decide) (fun _ _ _=>rfl),p.r0,p.r1,p.r2,p.r3,p.r4 (by decide),hA,p.r6 (by decide)⟩
 exact hi
theorem zI.prt'(h:zI w B g EL n S a ρ){N:Nat}{A:Option Addr}{c:Nat}{x:List Nat}{u:Value}(hO:qu w w' ρ 6)(hN:ρ N=6∨w.heap.size≤N)(hA:∀b,(Value.slice A (S.parts.length+1) c).ownBlock=some b→zU ρ N 6 b=6)(ho:w'.ownsRow B 26 1 (.slice A (S.parts.length+1) c) (S.parts.length+1) (a.vs++[u]))(hx:JN w B ρ u x):
  zI (w'.setCell ⟨g,7,none⟩ (.slice A (S.parts.length+1) c)) B g EL n {S with parts:=S.parts++[x]} {a with Ap:=A,cp:=c,vs:=a.vs++[u]} (zU ρ N 6):=by
 have p:=h.moveU hO hN (by decide) (by decide);have hl:a.vs.length=S.parts.length:=by have:=h.prt.1;simpa using this
 have hl2:(S.parts++[x]).length=S.parts.length+1:=by simp
 have hO2:qu w' (w'.setCell ⟨g,7,none⟩ (.slice A (S.parts.length+1) c)) (zU ρ N 6) 0:=qu.cell (a:=⟨g,7,none⟩) p.r0 _;have hx2:=(hx.move hO (by decide) (qb8 hN)).move hO2 (by decide) (fun _ _ _=>rfl);have hi:zI (w'.setCell ⟨g,7,none⟩ (.slice A (S.parts.length+1) c)) B g EL n {S with parts:=S.parts++[x]} {a with Ap:=A,cp:=c,vs:=a.vs++[u]} (zU ρ N 6):=
  ⟨p.low,by have:=p.size;simpa using this,h.len,h.n0,h.n1,p.edges.below_to (qb.keeps zo.keeps 1) (hO2.low p.low p.size (by decide)) (zn _),h.el,by have:=zf.set (p.blk (by decide)) 7 (.slice A (S.parts.length+1) c);rw[←hl2]at this⊢;exact this,
   ki (p.pl (by decide)) hO2 (by rw[p.r1];decide),ki (p.bk (by decide)) hO2 (by rw[p.r2];decide),ki (p.gn (by decide)) hO2 (by rw[p.r3];decide),ky (p.way (by decide)) hO2 (fun b hb=>by rw[p.r4 (by decide) b hb];decide),ky (p.opn (by decide)) hO2 (fun b hb=>by rw[p.r5 (by decide) b hb];decide),by dsimp only;rw[hl2];exact ky ho hO2 (fun b hb=>by rw[hA b hb];decide),
   fun i v c hv hc=>by
    dsimp only at hv hc;rcases Nat.lt_or_ge i S.parts.length with q|q
    ·rw[List.getElem?_append_left (by omega)]at hv hc;exact(p.pin (by decide) i v c hv hc).move hO2 (by decide) (fun _ _ _=>rfl)
    ·have hi:i<(S.parts++[x]).length:=(List.getElem?_eq_some_iff.mp hc).1;have:i=S.parts.length:=by omega
     subst this;rw[List.getElem?_append_right (zn _)]at hc;rw[List.getElem?_append_right (by omega)]at hv;simp[hl]at hv hc;subst hv;subst hc;exact hx2,
   p.r0,p.r1,p.r2,p.r3,p.r4 (by decide),p.r5 (by decide),by dsimp only;rw[hl2];exact hA⟩
 exact hi
theorem Vr{w w9:World}{o:Obj}{v:Value}{ρ:Nat→Nat}{r:Nat}(hlt:∀b,v.ownBlock=some b→ρ b=r)(hg:(w.alloc o).grownBy w9 v.ownBlock):qu w w9 ρ r:=
 (qu.below ((zb _ _).alloc (zn _) o)).trans (qu.grown hg hlt)
theorem q6d{w:World}{o:Obj}{v:Value}{ρ:Nat→Nat}{r N:Nat}(hlt:∀b,v.ownBlock=some b→ρ b=r)(hor:v.ownBlock=some N∨N=(w.alloc o).heap.size):ρ N=r∨w.heap.size≤N:=by
 rcases hor with q|q
 ·exact .inl (hlt N q)
 ·exact .inr (by simp at q;omega)
theorem q6c{g9 k c r:Nat}{ρ:Nat→Nat}:∀b,(Value.slice (some ⟨g9,0,none⟩) k c).ownBlock=some b→zU ρ g9 r b=r:=fun b hb=>by
 have:g9=b:=by simpa[Value.ownBlock]using hb
 subst this;exact kq _ _ _
theorem zI.cell_below(h:zI w' B g EL n S a ρ)(hb:Below B w w')(i:Nat)(v:Value):Below B w (w'.setCell ⟨g,i,none⟩ v):=
 hb.setCell (p:=⟨g,i,none⟩) (by
  rcases Nat.lt_or_ge g B with q|q
  ·have:=h.low g q;rw[h.r0]at this;cases this
  ·exact q) v
theorem zI.g_ge(h:zI w B g EL n S a ρ):B≤g∧B≤a.gp∧B≤a.gb∧B≤a.gg:=by
 have hx:∀x r,ρ x=r→r≠9→B≤x:=fun x r e hr=>by
  rcases Nat.lt_or_ge x B with q|q
  ·rw[h.low x q]at e;exact absurd e.symm hr
  ·exact q
 exact⟨hx g 0 h.r0 (by decide),hx _ 1 h.r1 (by decide),hx _ 2 h.r2 (by decide),hx _ 3 h.r3 (by decide)⟩
theorem zI.way_app(h:zI w B g EL n S a ρ){o:Obj}{v g9 c9:Nat}{w9:World}(hown:w9.ownsRow B 3 1 (.slice (some ⟨g9,0,none⟩) (S.way.length+1) c9) (S.way.length+1) (qg S.way++[.int .i64 (v:Int)]))
  (hgrow:(w.alloc o).grownBy w9 (Value.slice a.Ay S.way.length a.cy).ownBlock) (hor:(Value.slice a.Ay S.way.length a.cy).ownBlock=some g9∨g9=(w.alloc o).heap.size):
  zI (w9.setCell ⟨g,5,none⟩ (.slice (some ⟨g9,0,none⟩) (S.way.length+1) c9)) B g EL n {S with way:=S.way++[v]} {a with Ay:=some ⟨g9,0,none⟩,cy:=c9} (zU ρ g9 4)∧Below B w (w9.setCell ⟨g,5,none⟩ (.slice (some ⟨g9,0,none⟩) (S.way.length+1) c9)):=by
 have hl:(S.way++[v]).length=S.way.length+1:=by simp
 have hO:=Vr h.r4 hgrow;rw[←qak,←hl]at hown;have:=h.way' (W:=S.way++[v]) hO (q6d h.r4 hor) q6c hown;rw[hl]at this;exact⟨this,(hO.low h.low h.size (by decide)).setCell (p:=⟨g,5,none⟩) h.g_ge.1 _⟩
theorem zI.opn_app(h:zI w B g EL n S a ρ){o:Obj}{v g9 c9:Nat}{w9:World}(hown:w9.ownsRow B 3 1 (.slice (some ⟨g9,0,none⟩) (S.opn.length+1) c9) (S.opn.length+1) (qg S.opn++[.int .i64 (v:Int)]))
  (hgrow:(w.alloc o).grownBy w9 (Value.slice a.Ao S.opn.length a.co).ownBlock) (hor:(Value.slice a.Ao S.opn.length a.co).ownBlock=some g9∨g9=(w.alloc o).heap.size):
  zI (w9.setCell ⟨g,6,none⟩ (.slice (some ⟨g9,0,none⟩) (S.opn.length+1) c9)) B g EL n {S with opn:=S.opn++[v]} {a with Ao:=some ⟨g9,0,none⟩,co:=c9} (zU ρ g9 5)∧Below B w (w9.setCell ⟨g,6,none⟩ (.slice (some ⟨g9,0,none⟩) (S.opn.length+1) c9)):=by
 have hl:(S.opn++[v]).length=S.opn.length+1:=by simp
 have hO:=Vr h.r5 hgrow;rw[←qak,←hl]at hown;have:=h.opn' (W:=S.opn++[v]) hO (q6d h.r5 hor) q6c hown;rw[hl]at this;exact⟨this,(hO.low h.low h.size (by decide)).setCell (p:=⟨g,6,none⟩) h.g_ge.1 _⟩
theorem zI.prt_app(h:zI w B g EL n S a ρ){o:Obj}{g9 c9:Nat}{x:List Nat}{u:Value}{w9:World}(hx:JN w B ρ u x)(hown:w9.ownsRow B 26 1 (.slice (some ⟨g9,0,none⟩) (S.parts.length+1) c9) (S.parts.length+1) (a.vs++[u]))
  (hgrow:(w.alloc o).grownBy w9 (Value.slice a.Ap S.parts.length a.cp).ownBlock) (hor:(Value.slice a.Ap S.parts.length a.cp).ownBlock=some g9∨g9=(w.alloc o).heap.size):
  zI (w9.setCell ⟨g,7,none⟩ (.slice (some ⟨g9,0,none⟩) (S.parts.length+1) c9)) B g EL n {S with parts:=S.parts++[x]} {a with Ap:=some ⟨g9,0,none⟩,cp:=c9,vs:=a.vs++[u]} (zU ρ g9 6)∧Below B w (w9.setCell ⟨g,7,none⟩ (.slice (some ⟨g9,0,none⟩) (S.parts.length+1) c9)):=by
 have hO:=Vr h.r6 hgrow;exact⟨h.prt' hO (q6d h.r6 hor) q6c hown hx,(hO.low h.low h.size (by decide)).setCell (p:=⟨g,7,none⟩) h.g_ge.1 _⟩
theorem q2m{l:List Nat}(hd:l.Nodup)(h:∀v ∈l,v<n):l.length≤n:=by
 have:=q9m (p:=fun _=>true) (n:=n) (ss:=l.map (fun k:Nat=>(k:Int))) (List.pairwise_map.mpr (hd.imp (fun {a b} q e=>q (by omega)))) (fun x hx=>by
  obtain⟨k,hk,rfl⟩:=List.mem_map.mp hx;exact Yq.2 ⟨k,rfl,h k hk,rfl⟩)
 simpa using this
theorem zV.lens(h:zV EL n S):S.way.length≤n∧S.opn.length≤n∧S.parts.flatten.length≤n:=by
 have hd:∀{l:List Nat},l.Pairwise (fun a b=>S.place a<S.place b)→l.Nodup:=fun {l} q=>q.imp (fun {a b} q e=>by subst e;omega);exact⟨q2m (hd h.winc) (fun v hv=>h.olt v (h.wsub v hv)),q2m (hd h.oinc) h.olt,q2m h.nod (fun v hv=>(h.clt v hv).1)⟩
theorem zI.p_at(h:zI w B g EL n S a ρ){v:Nat}(hv:v<n):w.cell? ⟨a.gp,v,none⟩=some (.int .i64 (S.place v:Int))∧w.frozen? ⟨a.gp,v,none⟩=false:=by
 have:=h.pl.at_ (t:=v) (by rw[kL];exact hv);rw[Yu _ hv]at this;exact⟨this,zf.free h.pl v⟩
theorem zI.b_at(h:zI w B g EL n S a ρ){v:Nat}(hv:v<n):w.cell? ⟨a.gb,v,none⟩=some (.int .i64 (S.back v))∧w.frozen? ⟨a.gb,v,none⟩=false:=by
 have:=h.bk.at_ (t:=v) (by rw[kL];exact hv);rw[Yu _ hv]at this;exact⟨this,zf.free h.bk v⟩
theorem zI.g_at(h:zI w B g EL n S a ρ){v:Nat}(hv:v<n):w.cell? ⟨a.gg,v,none⟩=some (.int .i64 (S.gone v:Int))∧w.frozen? ⟨a.gg,v,none⟩=false:=by
 have:=h.gn.at_ (t:=v) (by rw[kL];exact hv);rw[Yu _ hv]at this;exact⟨this,zf.free h.gn v⟩
end
theorem q4j(E:Option Addr)(n c:Nat)(x:Int)(w:World)(r:Bool)(hr:(decide (0≤x)&& decide (x<n))=r):
  Calls Tryz.prog 74 #[.slice E n c,.int .i64 x] w fun e w'=>e= .returned (.bool r)∧Below w.heap.size w w':=by
 have HR:=zH hr;by_cases h0:0≤x
 ·by_cases h1:x<n
  ·go_enter Tryz.func74,Tryz.ntmps74;go_wp2
   go_ret;exact⟨by rw[←HR.out,decide_eq_true h0,decide_eq_true h1];rfl,zb _ _⟩
  ·go_enter Tryz.func74,Tryz.ntmps74;go_wp2
   go_ret;exact⟨by rw[←HR.out,decide_eq_true h0,decide_eq_false (by omega)];rfl,zb _ _⟩
 ·go_enter Tryz.func74,Tryz.ntmps74;go_wp2
  go_ret;exact⟨by rw[←HR.out,decide_eq_false (by omega),Bool.false_and];rfl,zb _ _⟩
set_option maxHeartbeats 1600000 in
theorem q9y(B g n v:Nat)(EL:List (List Int))(S:Wk)(a:QO)(ρ:Nat→Nat)(w:World)(h:zI w B g EL n S a ρ)(hv:v<n)(hm:S.met<n)(hw:S.way.length≤n)(ho:S.opn.length≤n):
  Calls Tryz.prog 98 #[.pointer (some ⟨g,0,none⟩),.int .i64 (v:Int)] w fun e w'=>e= .returned (.tuple #[])∧(∃a' ρ',zI w' B g EL n (S.meet v) a' ρ')∧Below B w w':=by
 obtain⟨met,place,back,gone,way,opn,parts⟩:=S;obtain⟨gp,gb,gg,E,ce,Ay,cy,Ao,co,Ap,cp,vs⟩:=a;dsimp only at hm hw ho;have HI:=zH h;have hn1:=h.n1;have hge:=h.g_ge;obtain⟨hg0,hg1,hg2,hg3⟩:=hge;have q1:=h.blk.cells 1 _ rfl;have f1:=h.blk.free 1;have H1:=zH (h.met (k:=met+1) (z:=(met:Int)+1) (by omega));have X1:=zH ((zb B w).setCell (p:=⟨g,1,none⟩) hg0 (.int .i64 ((met:Int)+1)));dsimp only at q1 f1 H1 hg1 hg2 hg3;clear h;obtain⟨i0,hi,hz0,hz1,hz2⟩:=info_parts kp;go_enter Tryz.func98,Tryz.ntmps98;go_upto_region 1 with fail
 generalize w.setCell ⟨g,1,none⟩ (.int .i64 ((met:Int)+1))=w1 at*
 clear q1 f1;have q1:=H1.out.blk.cells 1 _ rfl;have q2:=H1.out.blk.cells 2 _ rfl;have q3:=H1.out.blk.cells 3 _ rfl;obtain⟨c1,fp⟩:=H1.out.p_at hv;obtain⟨c2,fb⟩:=H1.out.b_at hv;dsimp only at q1 q2 q3 c1 c2 fp fb;have H2:=zH (H1.out.place (v:=v) (k:=met+1) (z:=(met:Int)+1) (by omega));obtain⟨c3,f3⟩:=H2.out.b_at hv;dsimp only at H2 c3 f3;go_region
 have H3:=zH ((H2.out.back (v:=v) (k:=(met:Int)+1)).keep (zb _ _).drew);have X3:=zH ((X1.out.setCell (p:=⟨gp,v,none⟩) hg1 (.int .i64 ((met:Int)+1))).setCell (p:=⟨gb,v,none⟩) hg2 (.int .i64 ((met:Int)+1))).drew;generalize((w1.setCell ⟨gp,v,none⟩ (.int .i64 ((met:Int)+1))).setCell ⟨gb,v,none⟩ (.int .i64 ((met:Int)+1))).drew=w3 at*
 clear q1 q2 q3 c1 fp c2 fb c3 f3 H2 H1 X1;have q5:=H3.out.blk.cells 5 _ rfl;dsimp only at q5 H3;have hz3:=H3.out.size;have HY3:Hid (w3.ownsRow B 3 1 (.slice Ay way.length cy) way.length (qg way)):=zH H3.out.way;go_upto_region 3 with(at_builtin;go_loud (refine wpList_append_lies _ rfl _ _ 26 rfl B 3 i0 (.int .i64 0) 1 8 Tryz.underlying26 hi hz0 hz1 hz2 rfl (by decide) _ _ _ rfl (HY3.out.alloc _) ⟨_,0,none⟩ 1 1 [.int .i64 (v:Int)] rfl rfl (q6m _ _ _) (Ve rfl) (by decide) (by unfold maxLen;omega) (by omega) (by simp;omega) _ rfl ?_);intro g9 c9 w9 hown hgrow hor hlt9;have hb9:=ki H3.out.blk (Vr H3.out.r4 hgrow) (by rw[H3.out.r0];decide);have q5':=hb9.cells 5 _ rfl;have f5':=hb9.free 5;have HA:=zH (H3.out.way_app hown hgrow hor);clear hown hgrow hor hlt9 hb9;dsimp only at q5')
 have H4:=zH HA.out.1;have X4:=zH (X3.out.trans HA.out.2);generalize w9.setCell ⟨g,5,none⟩ (.slice (some ⟨g9,0,none⟩) (way.length+1) c9)=w4 at*
 clear HA q5' f5' q5 H3 HY3 X3;have q6:=H4.out.blk.cells 6 _ rfl;dsimp only at q6 H4;have hz4:=H4.out.size;have HO4:Hid (w4.ownsRow B 3 1 (.slice Ao opn.length co) opn.length (qg opn)):=zH H4.out.opn;go_wp2_with(at_builtin;go_loud (refine wpList_append_lies _ rfl _ _ 26 rfl B 3 i0 (.int .i64 0) 1 8 Tryz.underlying26 hi hz0 hz1 hz2 rfl (by decide) _ _ _ rfl (HO4.out.alloc _) ⟨_,0,none⟩ 1 1 [.int .i64 (v:Int)] rfl rfl (q6m _ _ _) (Ve rfl) (by decide) (by unfold maxLen;omega) (by omega) (by simp;omega) _ rfl ?_);intro h9 d9 v9 hown hgrow hor hlt9;have hb9:=ki H4.out.blk (Vr H4.out.r5 hgrow) (by rw[H4.out.r0];decide);have q6':=hb9.cells 6 _ rfl;have f6':=hb9.free 6;have HA:=zH (H4.out.opn_app hown hgrow hor);clear hown hgrow hor hlt9 hb9;dsimp only at q6')
 go_end0
 exact⟨rfl,⟨_,_,HA.out.1⟩,X4.out.trans HA.out.2⟩
theorem q99(k n:Int)(w:World):Calls Tryz.prog 133 #[zO k n] w fun e w'=>e= .returned (.bool (jO k))∧Below w.heap.size w w':=by
 by_cases h:k=2∨k=3∨k=4
 ·have E:=zH (show jO k=true from decide_eq_true h);rcases h with rfl|rfl|rfl;all_goals
   go_enter Tryz.func133,Tryz.ntmps133;go_wp2
   go_ret;refine⟨?_,?_⟩
   ·rw[E.out];rfl
   ·exact(zb _ _).alloc (zn _) _
 ·have E:=zH (show jO k=false from decide_eq_false h);have h2:¬k=2:=by omega
  have h3:¬k=3:=by omega
  have h4:¬k=4:=by omega
  clear h;go_enter Tryz.func133,Tryz.ntmps133;go_wp2
  go_ret;refine⟨?_,?_⟩
  ·rw[E.out];simp[h2,h3,h4]
  ·exact(zb _ _).alloc (zn _) _
theorem qop(sup:List Int)(k n k' n':Int)(A:Option Addr)(cap B:Nat)(w:World)(hl:sup.length≤1048576)(hB:B≤w.heap.size)(h:jr w B A sup):
  Calls Tryz.prog 134 #[.slice A sup.length cap,zO k n,zO k' n'] w fun e w'=>e= .returned (.bool (zG sup k n k' n'))∧Below w.heap.size w w':=by
 have hW:Below w.heap.size w ((w.alloc (.cells #[.int .i64 k,.int .i64 n] 39)).alloc (.cells #[.int .i64 k',.int .i64 n'] 39)):=
  ((zb w.heap.size w).alloc (zn _) _).alloc (by simp) _
 have HS:=zH (h.below_to hW hB);have HW:=zH hW;have HB:=zH hB;clear h hW hB;by_cases h4:k=4
 ·subst h4;have e:zG sup 4 n k' n'=jO k':=by simp[zG]
  rw[e];clear e;go_enter Tryz.func134,Tryz.ntmps134;go_wp2_with(go_at_call 133;(with_reducible refine(q99 _ _ _).mono ?_);rintro e w' ⟨rfl,hb⟩)
  go_ret;exact⟨rfl,HW.out.trans (hb.mono (by simp;omega))⟩
 ·by_cases h3:k=3
  ·subst h3;by_cases hk:k'=3
   ·subst hk;have e:zG sup 3 n 3 n'=qc (zA sup n) n':=by simp[zG]
    rw[e];clear e;go_enter Tryz.func134,Tryz.ntmps134;go_wp2_with(go_at_call 125;(with_reducible refine(q9a sup n n' A cap B _ hl (by have:=HB.out;simp;omega) HS.out).mono ?_);rintro e w' ⟨rfl,hb⟩)
    go_ret;exact⟨rfl,HW.out.trans (hb.mono (by simp;omega))⟩
   ·have e:zG sup 3 n k' n'=false:=by simp[zG,hk]
    rw[e];clear e;go_enter Tryz.func134,Tryz.ntmps134;go_wp2_with fail
    go_ret;exact⟨by first|rfl|simp[hk],HW.out⟩
  ·by_cases h12:k=1∨k=2
   ·have e:zG sup k n k' n'=decide (k=k'∧n=n'):=by simp[zG,h3,h4,h12]
    rw[e];clear e;rcases h12 with rfl|rfl;all_goals
     go_enter Tryz.func134,Tryz.ntmps134;go_wp2_with fail
     all_goals
      go_ret;refine⟨?_,((zb _ _).alloc (zn _) _).alloc (by simp) _⟩;first|rfl|(simp[*];done)
   ·have e:zG sup k n k' n'=false:=by simp[zG,h3,h4,h12]
    rw[e];have h1:¬k=1:=by omega
    have h2:¬k=2:=by omega
    clear e h12;go_enter Tryz.func134,Tryz.ntmps134;go_wp2_with fail
    go_ret;exact⟨rfl,HW.out⟩
section
variable{α:Type}{P:ElP α}{S:Nat→Bool}{W W' w2 w3:World}{vs:List Value}{x:α}{base g n c:Nat}
theorem Vx(hM:vu P)(h:P (zW (old w2) w3) vs x)(hb:base≤w2.heap.size)(hg:g<w2.heap.size):P (zW (ZG base (.slice (some ⟨g,0,none⟩) n c)) w3) vs x:=
 ZT hM h (zn _) fun b _ hs=>⟨ZN.mpr ⟨by have:=kr.mp hs;omega,fun e=>by have:=kr.mp hs;have e:g=b:=(by simpa[Value.ownBlock]using e);omega⟩,rfl⟩
theorem Yr(hM:vu P)(h:P (zW S W) vs x)(hb:Below W.heap.size W W'):P (zW S W') vs x:=
 ZT hM h hb.size fun b hb' hs=>⟨hs,hb.block b hb'⟩
theorem Zu(hM:vu P)(h:P (zW (ZG base (.slice (some ⟨g,0,none⟩) n c)) W) vs x)(i:Nat)(u:Value):P (zW (ZG base (.slice (some ⟨g,0,none⟩) n c)) (W.setCell ⟨g,i,none⟩ u)) vs x:=
 ZT hM h (by simp) fun b hb' hs=>⟨hs,Below.heap_setCell _ _ _ _ (fun e=>(ZN.mp hs).2 (by have e:b=g:=e;simp[Value.ownBlock,e]))⟩
end
def ElS{α:Type}(At:qI α)(k:Nat)(A:Option Addr)(c:Nat):ElP (List α):=fun W _ l=>zd At k W W.heap.size A c l
theorem ElS.mono{α:Type}{At:qI α}(hK:vx At){k:Nat}{A:Option Addr}{c:Nat}:vu (ElS At k A c):=fun _ _ _ _ h hs hc=>zd.mono hK h hs (fun q v h1 h2=>(hc q v h1 h2).1)
def ElF(A:Option Addr)(c:Nat):ElP (List (Int×Int×Int)):=fun W _ l=>zd qw 3 W W.heap.size A c l∧∀(k:Nat) (ad:Addr),k<l.length→A=some ad→W.frozen? (ad.add (k*3))=false
theorem ElF.mono{A:Option Addr}{c:Nat}:vu (ElF A c):=fun _ _ _ _ ⟨h4,h8⟩ hs hc=>⟨h4.mono qw.mono hs (fun q v h1 h2=>(hc q v h1 h2).1),fun k ad hk e=>by
  obtain⟨ad',e',hb,hcell⟩:=h4.row.at_ hk;rw[e]at e';injection e' with e';subst e';rw[(hc _ _ (by rw[zt];exact hb) hcell.1).2];exact h8 k ad hk e⟩
theorem q0k{α:Type}{At:qI α}{k:Nat}{A:Option Addr}{c:Nat}{l:List α}{w w':World}(h:zd At k (zW (old w) w') w'.heap.size A c l):ElS At k A c (zW (old w) w') [] l:=by
 unfold ElS;rw[JC];exact h
theorem elF_of{A:Option Addr}{c:Nat}{l:List (Int×Int×Int)}{w w':World}(h:zd qw 3 (zW (old w) w') w'.heap.size A c l)(hf:∀ad,A=some ad→w.heap.size≤ad.block∧∀j,w'.frozen? (ad.add j)=false):ElF A c (zW (old w) w') [] l:=by
 unfold ElF;rw[JC];refine⟨h,fun k ad hk e=> ?_⟩;obtain⟨h1,h2⟩:=hf ad e;rw[q17 (by rw[zt];exact kr.mpr h1)];exact h2 _
def q0v(lo hi:Nat)(w:World)(A:Option Addr)(l:List ze):Prop:=
 ∀(i:Nat) (x:ze),l[i]? =some x→∃am,A=some am∧lo≤am.block∧am.block<hi∧∀k,k<x.code.length→∃ad cap,w.cell? (zc (am.add (i*8)) 4)=some (.slice (some ad) x.code.length cap)∧lo≤ad.block∧ad.block<hi∧ad.block≠am.block∧w.frozen? (ad.add (k*3))=false
theorem q0v.keep{lo hi:Nat}{w w':World}{A:Option Addr}{l:List ze}(h:q0v lo hi w A l)(hs:∀b,lo≤b→b<hi→w'.heap[b]? =w.heap[b]?):q0v lo hi w' A l:=fun i x hx=>by
 obtain⟨am,e,h1,h2,h3⟩:=h i x hx;refine⟨am,e,h1,h2,fun k hk=> ?_⟩;obtain⟨ad,cap,g1,g2,g3,g4,g5⟩:=h3 k hk;have e1:(zc (am.add (i*8)) 4).block=am.block:=zt _ _;have e2:(ad.add (k*3)).block=ad.block:=zt _ _;exact⟨ad,cap,(World.cell?_of_block (w:=w) (hs _ (by rw[e1];exact h1) (by rw[e1];exact h2))).trans g1,g2,g3,g4,(World.frozen?_of_block (w:=w) (hs _ (by rw[e2];exact g2) (by rw[e2];exact g3))).trans g5⟩
theorem qr4{w:World}{base e n c:Nat}{A:Option Addr}{l:List ze}(h:vt jK w base e 8 (.slice A n c) l):q0v base w.heap.size w A l:=fun i x hx=>by
 obtain⟨vss,h1,h2,h3,h4⟩:=h;have hi:i<l.length:=by
  rcases Nat.lt_or_ge i l.length with h|h
  ·exact h
  ·rw[List.getElem?_eq_none h]at hx;cases hx
 have hvs:vss[i]? =some vss[i]:=List.getElem?_eq_getElem (by omega);have hel:=h4 i _ x hvs hx;rcases jA h3 with⟨hv,hn⟩|⟨g,c',hv,_,_⟩
 ·omega
 ·injection hv with e1 e2 e3;subst e1 e2 e3;obtain⟨hb,hcell⟩:=kb h3;obtain⟨hf,_,hgl⟩:=kn h3 0;refine⟨⟨g,0,none⟩,rfl,hb,hgl,fun k hk=> ?_⟩;obtain⟨A0,k0,A1,k1,A4,k4,A7,k7,evs,_,_,s4,_,s8⟩:=hel;obtain⟨ad,ea,hab,hc⟩:=s4.row.at_ hk;have hS:=(QA.mp hc.1).1;rw[zt]at hS;obtain⟨t1,t2⟩:=ZN.mp hS;have hcs:=(hcell (i*8+4) (.slice A4 x.code.length k4) (by rw[VQ vss i 4 _ h2 hvs (by decide),evs];rfl)).1;refine⟨ad,k4,?_,t1,by rw[JC]at hab;exact hab,fun e=>t2 (by simp[Value.ownBlock,e]),?_⟩
  ·rw[←ea];have e:zc (Addr.add ⟨g,0,none⟩ (i*8)) 4=⟨g,i*8+4,none⟩:=by
    unfold zc Addr.add;split
    ·rename_i h0;rw[h0]
    ·simp
   rw[e];exact hcs
  ·have:=s8 k ad hk ea
   rwa [q17 (by rw[zt];exact hS)]at this
def kR(A:Option Addr):Nat→Bool:=fun b=>decide (A.map (·.block)=some b)
theorem Qi{A:Option Addr}{b:Nat}:kR A b=false↔∀ad,A=some ad→ad.block≠b:=by
 unfold kR;cases A with
 |none=>simp
 |some ad=>simp
def vC(bs:Nat)(A:Option Addr):Nat→Bool:=fun b=>decide (b<bs)||kR A b
theorem Vp{bs:Nat}{A:Option Addr}{b:Nat}:vC bs A b=false↔bs≤b∧kR A b=false:=by unfold vC;simp
structure jD(w:World)(lo bs:Nat)(h:zl)(m:za)(zs:List (ze×zS)):Prop where
 row:w.ownsRow lo 42 8 (.slice h.A3 m.methods.length h.c3) m.methods.length (qU zs)
 val:zs.map (·.1)=m.methods
 mth:∀z ∈zs,qy (zW (vC bs h.A3) w) w.heap.size z.2 z.1
 cls:zd jc 3 (zW (vC bs h.A3) w) w.heap.size h.A0 h.c0 m.classes
 sta:zd zi 2 (zW (vC bs h.A3) w) w.heap.size h.A1 h.c1 m.statics
 ints:zd jo 1 (zW (vC bs h.A3) w) w.heap.size h.A2 h.c2 m.ints
 ent:zd zo 1 (zW (vC bs h.A3) w) w.heap.size h.A4 h.c4 m.entries
 base:bs≤lo
theorem qy.holed{S S':Nat→Bool}{w w':World}{B C:Nat}{h:zS}{x:ze}(H:qy (zW S w) B h x)(hC:B≤C)(hs:∀b,b<B→S b=false→S' b=false∧w'.heap[b]? =w.heap[b]?):qy (zW S' w') C h x:=
 ⟨H.args.hole zi.mono hC hs,H.locals.hole zi.mono hC hs,H.code.hole qw.mono hC hs,H.phi.hole zo.mono hC hs⟩
theorem qy.unholed{S:Nat→Bool}{w:World}{B:Nat}{h:zS}{x:ze}(H:qy (zW S w) B h x):qy w B h x:=
 ⟨zd.of_hole zi.mono H.args,zd.of_hole zi.mono H.locals,zd.of_hole qw.mono H.code,zd.of_hole zo.mono H.phi⟩
theorem qgn{w:World}{base e n c bs:Nat}{A:Option Addr}{l:List ze}(hbs:bs≤base)(h:vt jK w base e 8 (.slice A n c) l):∃zs:List (ze×zS),zs.map (·.1)=l∧w.ownsRow base e 8 (.slice A n c) l.length (qU zs)∧(∀z ∈zs,qy (zW (vC bs A) w) w.heap.size z.2 z.1)∧∀ad,A=some ad→base≤ad.block∧ad.block<w.heap.size:=by
 obtain⟨vss,h1,h2,h3,h4⟩:=h;have hA:∀ad,A=some ad→base≤ad.block∧ad.block<w.heap.size:=fun ad e=>h3.lt ad.block (by rw[e];rfl);obtain⟨zs,e,hz⟩:=q4b (Q:=fun i (x:ze) (y:zS)=>vss[i]? =some (qe y x)∧qy (zW (vC bs A) w) w.heap.size y x) l 0 (fun i x hi=>by
  have hil:=(List.getElem?_eq_some_iff.mp hi).1;have hv:vss[i]? =some vss[i]:=List.getElem?_eq_getElem (by omega);obtain⟨A0,k0,A1,k1,A4,k4,A7,k7,evs,s0,s1,s4,s7,_⟩:=h4 i _ x hv hi;rw[JC]at s0 s1 s4 s7;rw[Nat.zero_add];refine⟨⟨A0,A1,A4,A7,k0,k1,k4,k7⟩,by rw[hv,evs],qy.holed (S:=ZG base (.slice A n c)) ⟨s0,s1,s4,s7⟩ (zn _) fun b hb hs=>⟨Vp.mpr ⟨Nat.le_trans hbs (ZN.mp hs).1,Qi.mpr fun ad ea hab=>(ZN.mp hs).2 (by subst ea;subst hab;rfl)⟩,rfl⟩⟩)
 have hvs:vss=zs.map jz:=by
  refine List.ext_getElem? fun i=> ?_;rw[List.getElem?_map];cases hi:zs[i]? with
  |none=>
   have hzl:zs.length=l.length:=by rw[←e,List.length_map]
   rw[List.getElem?_eq_none (by have:=List.getElem?_eq_none_iff.mp hi;omega)];rfl
  |some z=>
   have:=(hz i z hi).1;rw[Nat.zero_add]at this;rw[this];rfl
 refine⟨zs,e,?_,fun z hm=> ?_,hA⟩
 ·have:qU zs=vss.flatten:=by unfold qU;rw[hvs,List.flatMap_def]
  rw[this];exact h3
 ·obtain⟨i,hi⟩:=List.getElem?_of_mem hm;exact(hz i z hi).2
section
variable{w w':World}{lo bs:Nat}{h:zl}{m:za}{zs:List (ze×zS)}
theorem jD.len(H:jD w lo bs h m zs):zs.length=m.methods.length:=by rw[←H.val,List.length_map]
theorem jD.keep(H:jD w lo bs h m zs)(hb:Below w.heap.size w w'):jD w' lo bs h m zs:=by
 have hs:∀b,b<w.heap.size→vC bs h.A3 b=false→vC bs h.A3 b=false∧w'.heap[b]? =w.heap[b]? :=fun b h1 h2=>⟨h2,hb.block b h1⟩
 exact⟨qG H.row hb (qi H.row),H.val,fun z hz=>(H.mth z hz).holed hb.size hs,H.cls.hole jc.mono hb.size hs,H.sta.hole zi.mono hb.size hs,H.ints.hole jo.mono hb.size hs,H.ent.hole zo.mono hb.size hs,H.base⟩
theorem jD.image(H:jD w lo bs h m zs):zp w w.heap.size h m:=by
 refine⟨zd.of_hole jc.mono H.cls,zd.of_hole zi.mono H.sta,zd.of_hole jo.mono H.ints,?_,zd.of_hole zo.mono H.ent⟩;rcases jA H.row with⟨hv,hn⟩|⟨g,c,hv,h1,h2⟩
 ·injection hv with e1 _ e3;have hm:m.methods=[]:=List.eq_nil_of_length_eq_zero hn;rw[e1,e3,hm];exact⟨zn _,by omega,qt.nil⟩
 ·injection hv with e1 _ e3;have hr:=H.row;rw[e1,e3]at hr⊢
  have:=q2e hr H.len (fun z hz=>(H.mth z hz).unholed);rw[H.val]at this;exact this
theorem jD.at_(H:jD w lo bs h m zs){f:Nat}(hf:f<m.methods.length):∃g z,h.A3=some ⟨g,0,none⟩∧lo≤g∧g<w.heap.size∧(∀j,w.frozen? ⟨g,j,none⟩=false)∧zs[f]? =some z∧m.methods[f]? =some z.1∧∀(r:Nat) (u:Value),r<8→(jz z)[r]? =some u→w.cell? ⟨g,f*8+r,none⟩=some u:=by
 rcases jA H.row with⟨hv,hn⟩|⟨g,c,hv,h1,h2⟩
 ·omega
 ·injection hv with e1 _ e3;have hr:=H.row;rw[e1,e3]at hr;have hfz:f<zs.length:=by rw[H.len];exact hf
  obtain⟨z,hz⟩:∃z,zs[f]? =some z:=⟨_,List.getElem?_eq_getElem hfz⟩
  refine⟨g,z,e1,(kn hr 0).2.1,(kn hr 0).2.2,fun j=>(kn hr j).1,hz,?_,fun r u hlt hu=> ?_⟩
  ·have:=congrArg (fun l=>l[f]?) H.val;simp only[List.getElem?_map,hz,Option.map_some]at this;exact this.symm
  ·exact((kb hr).2 _ u (by rw[JE hz hlt];exact hu)).1
theorem qeh{A:Option Addr}{bs:Nat}{w:World}{a:Addr}{v:Value}(hA:A.map (·.block)=some a.block):∀b,b<w.heap.size→vC bs A b=false→vC bs A b=false∧(w.setCell a v).heap[b]? =w.heap[b]? :=fun b _ hs=>⟨hs,Below.heap_setCell w a v b (fun e=>by
 replace hs:=(Vp.mp hs).2;unfold kR at hs;rw[hA,e]at hs;simp at hs)⟩
theorem jD.turn(H:jD w lo bs h m zs){f r g:Nat}{z y:ze×zS}{v:Value}(hg:h.A3=some ⟨g,0,none⟩)(hz:zs[f]? =some z)(hr:r<8)(hy:jz y=(jz z).set r v)(hi:qy (zW (vC bs h.A3) w) w.heap.size y.2 y.1):
  jD (w.setCell ⟨g,f*8+r,none⟩ v) lo bs h {m with methods:=m.methods.set f y.1} (zs.set f y):=by
 have hs:=qeh (bs:=bs) (w:=w) (a:=⟨g,f*8+r,none⟩) (v:=v) (A:=h.A3) (by rw[hg];rfl);have hz0:(w.setCell ⟨g,f*8+r,none⟩ v).heap.size=w.heap.size:=by simp
 have hl:∀{B:Nat},B=w.heap.size→B≤(w.setCell ⟨g,f*8+r,none⟩ v).heap.size:=fun e=>by rw[hz0,e];exact zn _
 refine⟨?_,by rw[List.map_set,H.val],fun x hx=> ?_,H.cls.hole jc.mono (hl rfl) hs,H.sta.hole zi.mono (hl rfl) hs,H.ints.hole jo.mono (hl rfl) hs,H.ent.hole zo.mono (hl rfl) hs,H.base⟩
 ·show World.ownsRow _ lo _ 8 (.slice h.A3 (m.methods.set f y.1).length h.c3) (m.methods.set f y.1).length _;rw[List.length_set,←q2h hz hr hy];have hrow:=H.row;rw[hg]at hrow⊢
  exact Vn hrow v
 ·rcases List.mem_or_eq_of_mem_set hx with q|q
  ·exact(H.mth x q).holed (hl rfl) hs
  ·rw[q];exact hi.holed (hl rfl) hs
theorem jD.far(H:jD w lo bs h m zs){a:Addr}(ha:a.block<bs)(v:Value):jD (w.setCell a v) lo bs h m zs:=by
 have hs:∀b,b<w.heap.size→vC bs h.A3 b=false→vC bs h.A3 b=false∧(w.setCell a v).heap[b]? =w.heap[b]? :=fun b _ h2=>⟨h2,Below.heap_setCell w a v b (by have:=(Vp.mp h2).1;omega)⟩
 have hl:w.heap.size≤(w.setCell a v).heap.size:=by simp
 refine⟨⟨H.row.1,?_⟩,H.val,fun z hz=>(H.mth z hz).holed hl hs,H.cls.hole jc.mono hl hs,H.sta.hole zi.mono hl hs,H.ints.hole jo.mono hl hs,H.ent.hole zo.mono hl hs,H.base⟩;rcases H.row.2 with h0|⟨g,cap,cur,hv,hb,hh,rest⟩
 ·exact .inl h0
 ·exact .inr ⟨g,cap,cur,hv,hb,by rw[Below.heap_setCell _ _ _ _ (by have:=H.base;omega)];exact hh,rest⟩
end
section
variable{EL:List (List Int)}{n:Nat}{S:Wk}
def Zp(n:Nat)(S:Wk):Nat:=2*Qp (fun v=>decide (0<S.place v)) n+S.way.length
theorem zV.gone_none(h:zV EL n S){v:Nat}(hw:v ∈S.way)(hl:S.gone v<(eds EL v).length)(ht:∀t:Nat,t<n→¬(eds EL v)[S.gone v]=(t:Int)):zV EL n (S.go v):=h.go hw hl (fun t htn e=>absurd e (ht t htn))
theorem zV.gone_old(h:zV EL n S)(hn:(n:Int)≤vj){v t:Nat}(hw:v ∈S.way)(hl:S.gone v<(eds EL v).length)(ht:t<n)(h0:0<S.place t)(he:(eds EL v)[S.gone v]=(t:Int)):zV EL n ((S.lower v (min (S.back v) (S.back t))).go v):=by
 obtain⟨h1,h2⟩:=h.see hn hw ht h0 (by unfold vR;rw[←he];exact List.getElem_mem hl);refine h1.go hw hl (fun u hu e=> ?_);have e:(eds EL v)[S.gone v]=(u:Int):=e;have:u=t:=by omega
 subst this;rcases h2 with q|⟨q1,q2⟩
 ·exact .inl q
 ·refine .inr ⟨q1,?_⟩;have:(S.lower v (min (S.back v) (S.back u))).back v=min (S.back v) (S.back u):=kq _ _ _;rw[this];exact q2
theorem zV.gone_new(h:zV EL n S){W:List Nat}{v t:Nat}(hw:S.way=W++[v])(hl:S.gone v<(eds EL v).length)(ht:t<n)(h0:S.place t=0)(he:(eds EL v)[S.gone v]=(t:Int)):zV EL n ((S.go v).meet t)∧Zp n ((S.go v).meet t)<Zp n S:=by
 have hvw:v ∈S.way:=by rw[hw];simp
 have hed:vR EL v t:=by unfold vR;rw[←he];exact List.getElem_mem hl
 have hpw:∀p ∈S.way,Way EL n p t:=fun p hp=>by
  have hle:S.place p≤S.place v:=by
   have hq:=h.winc;rw[hw,List.pairwise_append]at hq;rw[hw]at hp;rcases List.mem_append.mp hp with q|q
   ·exact Nat.le_of_lt (hq.2.2 p q v (by simp))
   ·rw[List.mem_singleton]at q;subst q;exact zn _
  rcases h.tree p hp v (h.wsub v hvw) hle with rfl|q
  ·exact .one hed
  ·exact .snoc q (h.olt v (h.wsub v hvw)) hed
 have h1:=h.meet ht h0 hpw;have hvt:v≠t:=fun e=>by subst e;have:=(h.opos v (h.wsub v hvw)).1;omega
 have h2:=h1.go (v:=v) (by show v ∈S.way++[t];simp[hvw]) hl (fun u hu e=>by
  have e:(eds EL v)[S.gone v]=(u:Int):=e;have:u=t:=by omega
  subst this;refine .inr ⟨by show u ∈S.opn++[u];simp,?_⟩;have e1:(S.meet u).back v=S.back v:=Zg _ _ hvt;have e2:(S.meet u).place u=S.met+1:=kq _ _ _;rw[e1,e2];have:=(h.bin v (h.wsub v hvw)).2.1;have:=(h.opos v (h.wsub v hvw)).2;omega)
 refine⟨h2,?_⟩;have hu:=q1p (p:=fun v=>decide (0<S.place v)) (g:=t) (by simp[h0]) n ht;have h3:(fun x=>decide (0<((S.go v).meet t).place x))=fun k=>decide (0<S.place k)||decide (k=t):=funext fun x=>by
  by_cases e:x=t
  ·subst e;have:((S.go v).meet x).place x=S.met+1:=kq _ _ _;rw[this];simp
  ·have:((S.go v).meet t).place x=S.place x:=Zg _ _ e;rw[this];simp[e]
 unfold Zp;rw[h3];have:((S.go v).meet t).way.length=S.way.length+1:=by show(S.way++[t]).length=_;simp
 omega
theorem zV.met_all{v x:Nat}(h:0<S.place x):0<(S.meet v).place x:=by
 by_cases e:x=v
 ·subst e;have:(S.meet x).place x=S.met+1:=kq _ _ _;omega
 ·have:(S.meet v).place x=S.place x:=Zg _ _ e;omega
end
end Go.Proofs.YtdbfllajopcccaaGreat
