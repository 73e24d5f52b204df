import Derived.Test.YtcmiljnbmgkdnaaGreatFB16
namespace Go.Proofs.YtcmiljnbmgkdnaaGreat
set_option maxRecDepth 100000
set_option linter.unusedVariables false
set_option linter.unusedSimpArgs false
open Go.ChangeShapes Go.WideShapes Go.ChangeAt Go.RowKit
theorem q00(w:World)(B:Nat):zm w B ZY jv:=⟨⟨zn _,by decide,qv.nil⟩,⟨zn _,by decide,qv.nil⟩,⟨zn _,by decide,qv.nil⟩,⟨zn _,by decide,qv.nil⟩,⟨zn _,by decide,qv.nil⟩⟩
def qff(l:List Int)(w:World)(e:Ending)(w':World):Prop:=
 ∃h m er,e= .returned (.tuple #[zp h m,.int .i64 er])∧zm (qt (old w) w') w'.heap.size h m∧Below w.heap.size w w'∧Yq l m er
set_option maxHeartbeats 6400000 in
theorem qhr(l:List Int)(A:Option Addr)(cap B:Nat)(w:World)(hl:l.length≤1048576)(hc:l.length≤cap)(hcap:cap≤9223372036854775807)(hr:∀b ∈l,0≤b∧b≤255)(hA:A=none→cap=0)(hB:B≤w.heap.size)(h:zq w B A (l.map (Value.int .u8))):
  Calls Tryz.prog 43 #[.slice A l.length cap] w (qff l w):=by
 have hs1:(w.alloc je).heap.size=w.heap.size+1:=by simp
 have kc:=q5g (w.alloc je) (w.heap.size+1) (by simp);have hW1:Below w.heap.size w (w.alloc je):=(zb _ _).alloc (zn _) _;have hW2:Below (w.alloc je).heap.size (w.alloc je) ((w.alloc je).alloc vY):=(zb _ _).alloc (zn _) _;have HW:=zH (hW1.trans (hW2.mono hW1.size));have HPL:Hid (zq ((w.alloc je).alloc vY) ((w.alloc je).alloc vY).heap.size (some ⟨w.heap.size+1,0,none⟩) (qG.map (Value.int .u8))):=zH (by rw[←hs1];exact q9l (zb _ _));have HJ0:Hid (((w.alloc je).alloc vY).heap[w.heap.size]? =some (.cells q41.toArray 28 (0,0))):=zH ((hW2.block _ (by omega)).trans (Xw _ _));have HL:=zH ((h.below_to HW.out hB).more (Xd hB HW.out.size));have HA:=zH hA;have HR:=zH hr;have HZ:Hid (w.heap.size<((w.alloc je).alloc vY).heap.size):=zH (by simp;omega);clear hs1 hW1 hW2 h hA hr hB;by_cases hp:l.take 4=qG
 ·have HP:=zH hp;clear hp;by_cases ho:8192<l.length
  ·have E:=zH (qi5 ho);go_enter Tryz.func43,Tryz.ntmps43;go_upto_region 1 with fail
   go_wp2_with(go_at_call 67;(with_reducible refine(qdx l A cap _ (w.heap.size+1) _ hc hcap HR.out (zn _) HL.out HPL.out HP.out).mono ?_);rintro e w' ⟨A',cap',rfl,hl2,ha2,rfl⟩;have p0:=zk HJ0.out 0 _ rfl;have p1:=zk HJ0.out 1 _ rfl;have p2:=zk HJ0.out 2 _ rfl;have p3:=zk HJ0.out 3 _ rfl;have p4:=zk HJ0.out 4 _ rfl;have p5:=zk HJ0.out 5 _ rfl;have p6:=zk HJ0.out 6 _ rfl;have g0:=zB HJ0.out 0;have g1:=zB HJ0.out 1;have g2:=zB HJ0.out 2;have g3:=zB HJ0.out 3;have g4:=zB HJ0.out 4;have g5:=zB HJ0.out 5;have g6:=zB HJ0.out 6;clear hl2 ha2)
   refine Xl (v:= .tuple #[zp ZY jv,.int .i64 2]) (by simp[results,Tryz.results43,go_sem,p0,p1,p2,p3,p4,p5,p6,jv]) rfl ⟨ZY,jv,2,rfl,q00 _ _,HW.out,E.out⟩
  ·obtain⟨D,hD⟩:∃D,l.drop 4=D:=⟨_,rfl⟩
   have HDE:=zH hD;have HDl:D.length≤1048576:=by rw[←hD];simp;omega
   have HBD:Hid (Bts D):=zH ⟨HDl,fun b hb=>HR.out b (by rw[←hD]at hb;exact List.mem_of_mem_drop hb)⟩;have HBr:Hid (∀b ∈D,0≤b∧b≤255):=zH HBD.out.2;have hl8:Hid (l.length≤8192):=zH (by omega);clear hD;go_enter Tryz.func43,Tryz.ntmps43;go_upto_region 1 with fail
   go_upto_region 6 with(first
    |(go_at_call 67;(with_reducible refine(qdx l A cap _ (w.heap.size+1) _ hc hcap HR.out (zn _) HL.out HPL.out HP.out).mono ?_);rintro e w' ⟨A',cap',he,hl2,ha2,rfl⟩;rw[HDE.out]at he hl2;subst he;have HL2:=zH hl2;have HA2:=zH ha2;clear hl2 ha2)
    |(go_at_call 68;(with_reducible refine(qtv D A' cap' _ _ HDl HBr.out HA2.out (zn _) HL2.out).mono ?_);rintro e w2 ⟨N,rfl,hN,hrd,hb⟩;have HRd:=zH hrd;have HW2:=zj HW hb;have HJ2:=zH ((hb.block _ HZ.out).trans HJ0.out);have HN:=zH (Xj HZ.out hN);clear hrd hb hN)
    |(go_at_call 69;(with_reducible refine(qt2 N D false _ HBD.out HRd.out).mono ?_);rintro e w3 ⟨m,hh,r',b',rfl,hi,hrd,hg,hrel⟩;have HI3:=zH hi;have HRd3:=zH hrd;have HG3:=zH hg;have HL3:=zH hrel;clear hi hrd hg hrel))
   have hz2:w.heap.size<w2.heap.size:=lt_of_block HJ2.out;have hb3:Below w.heap.size w w3:=HW2.out.trans (q8r HG3.out (Xh HN.out) HRd.out.lt);have hJ3:=qA HJ2.out HG3.out (Nat.ne_of_lt HN.out);have hA4:Below w3.heap.size w3 (w3.alloc (zg hh m)):=(zb _ _).alloc (zn _) _;have HW4:=zH (hb3.trans (hA4.mono hb3.size));have HJ4:=zH ((hA4.block _ (lt_of_block hJ3)).trans hJ3);have HRd4:=zH (HRd3.out.keep hA4);have HI4:=zH (YW (S':=old w2) (w':=w3.alloc (zg hh m)) HI3.out hA4.size fun b hb hs=>⟨hs,hA4.block b hb⟩);have HBX4:=zH (ql w3 hh m);have HZ3:Hid (w3.heap.size<(w3.alloc (zg hh m)).heap.size):=zH (by simp);clear hb3 hJ3 hA4;generalize w3.alloc (zg hh m)=w4 at*
   obtain⟨e1,he1⟩:∃e1,(!b'&& r'.isEmpty)=e1:=⟨_,rfl⟩
   have HE1:=zH he1;obtain⟨e2,he2⟩:∃e2,zK m=e2:=⟨_,rfl⟩
   have HE2:=zH he2;clear he1 he2;have HGD:Hid (zD Js ZT (l.drop 4) false m r' b'):=zH (by rw[HDE.out];exact HL3.out);obtain⟨q0,q1,q2,q3,q4,q5,q6⟩:=HBX4.out;cases e1
   ·have E:=zH (qa8 (b:=b') HGD.out (fun x=>by have h:=HE1.out;rw[x.1,x.2.1]at h;simp at h));go_wp2_with(go_at_call 70;(with_reducible refine(q73 HRd4 HE1).mono ?_);rintro e w5 ⟨rfl,hb⟩;have HW5:=zj HW4 hb;have JJ:=(hb.block _ (lt_of_block HJ4.out)).trans HJ4.out;have p0:=zk JJ 0 _ rfl;have g0:=zB JJ 0;have p1:=zk JJ 1 _ rfl;have g1:=zB JJ 1;have p2:=zk JJ 2 _ rfl;have g2:=zB JJ 2;have p3:=zk JJ 3 _ rfl;have g3:=zB JJ 3;have p4:=zk JJ 4 _ rfl;have g4:=zB JJ 4;have p5:=zk JJ 5 _ rfl;have g5:=zB JJ 5;have p6:=zk JJ 6 _ rfl;have g6:=zB JJ 6;clear hb JJ)
    refine Xl (v:= .tuple #[zp ZY jv,.int .i64 2]) (by simp[results,Tryz.results43,go_sem,p0,p1,p2,p3,p4,p5,p6,jv]) rfl ⟨ZY,jv,2,rfl,q00 _ _,YH HW5.out _ _ _ _ _ _ _,E.out⟩
   ·cases e2
    ·have E:=zH (qa8 (b:=b') HGD.out (fun x=>by have h:=HE2.out;rw[x.2.2]at h;cases h));go_wp2_with(first
      |(go_at_call 70;(with_reducible refine(q73 HRd4 HE1).mono ?_);rintro e w5 ⟨rfl,hb⟩;have HW5:=zj HW4 hb;have HJ5:=zH ((hb.block _ (lt_of_block HJ4.out)).trans HJ4.out);have HI5:=zH ((q2c HI4.out).now hb);obtain⟨q0,q1,q2,q3,q4,q5,q6⟩:=HBX4.out.keep hb HZ3.out;clear hb)
      |(go_at_call 48;(with_reducible refine(qbu HI5 HE2).mono ?_);rintro e w6 ⟨rfl,hb⟩;have HW6:=zj HW5 hb;have JJ:=(hb.block _ (lt_of_block HJ5.out)).trans HJ5.out;have p0:=zk JJ 0 _ rfl;have g0:=zB JJ 0;have p1:=zk JJ 1 _ rfl;have g1:=zB JJ 1;have p2:=zk JJ 2 _ rfl;have g2:=zB JJ 2;have p3:=zk JJ 3 _ rfl;have g3:=zB JJ 3;have p4:=zk JJ 4 _ rfl;have g4:=zB JJ 4;have p5:=zk JJ 5 _ rfl;have g5:=zB JJ 5;have p6:=zk JJ 6 _ rfl;have g6:=zB JJ 6;clear hb JJ))
     refine Xl (v:= .tuple #[zp ZY jv,.int .i64 2]) (by simp[results,Tryz.results43,go_sem,p0,p1,p2,p3,p4,p5,p6,jv]) rfl ⟨ZY,jv,2,rfl,q00 _ _,YH HW6.out _ _ _ _ _ _ _,E.out⟩
    ·have hb':b'=false∧r'=[]:=by have h:=HE1.out;cases b'<;>cases r'<;>simp at h⊢
     obtain⟨rfl,rfl⟩:=hb';have E:=zH (qq4 (b:=false) hl8.out HGD.out HP.out HE2.out);go_wp2_with(first
      |(go_at_call 70;(with_reducible refine(q73 HRd4 HE1).mono ?_);rintro e w5 ⟨rfl,hb⟩;have HW5:=zj HW4 hb;have HJ5:=zH ((hb.block _ (lt_of_block HJ4.out)).trans HJ4.out);have HI5h:=zH (YW (S':=old w2) HI4.out hb.size fun b hb' hs=>⟨hs,hb.block b hb'⟩);have HI5:=zH (q2c HI5h.out);have HBX5:=zH (HBX4.out.keep hb HZ3.out);have HZ5:=zH (Xj HZ3.out hb.size);obtain⟨q0,q1,q2,q3,q4,q5,q6⟩:=HBX5.out;clear hb)
      |(go_at_call 48;(with_reducible refine(qbu HI5 HE2).mono ?_);rintro e w6 ⟨rfl,hb⟩;have HW6:=zj HW5 hb;have JJ:=(hb.block _ (lt_of_block HJ5.out)).trans HJ5.out;have HI6h:=zH (YW (S':=old w2) HI5h.out hb.size fun b hb' hs=>⟨hs,hb.block b hb'⟩);obtain⟨q0,q1,q2,q3,q4,q5,q6⟩:=HBX5.out.keep hb HZ5.out;have p0:=zk JJ 0 _ rfl;have g0:=zB JJ 0;have p1:=zk JJ 1 _ rfl;have g1:=zB JJ 1;have p2:=zk JJ 2 _ rfl;have g2:=zB JJ 2;have p3:=zk JJ 3 _ rfl;have g3:=zB JJ 3;have p4:=zk JJ 4 _ rfl;have g4:=zB JJ 4;have p5:=zk JJ 5 _ rfl;have g5:=zB JJ 5;have p6:=zk JJ 6 _ rfl;have g6:=zB JJ 6;clear hb JJ))
     refine Xl (v:= .tuple #[zp hh m,.int .i64 0]) (by simp[results,Tryz.results43,go_sem,p0,p1,p2,p3,p4,p5,p6]) rfl ⟨hh,m,0,rfl,?_,YH HW6.out _ _ _ _ _ _ _,E.out⟩;exact YW (S':=old w) HI6h.out (by simp) fun b hb hs=>⟨kS.mpr (Xd (Xh hz2) (kS.mp hs)),q66 (by have:=kS.mp hs;omega) _ _ _ _ _ _ _⟩
 ·have E:=zH (qi6 hp);have HP:=zH hp;clear hp;go_enter Tryz.func43,Tryz.ntmps43;go_upto_region 1 with fail
  go_wp2_with(go_at_call 67;(with_reducible refine(qeu l A cap _ (w.heap.size+1) _ hc hcap HR.out HL.out HPL.out HP.out).mono ?_);rintro e w' ⟨rfl,rfl⟩;have JJ:=HJ0.out;have p0:=zk JJ 0 _ rfl;have g0:=zB JJ 0;have p1:=zk JJ 1 _ rfl;have g1:=zB JJ 1;have p2:=zk JJ 2 _ rfl;have g2:=zB JJ 2;have p3:=zk JJ 3 _ rfl;have g3:=zB JJ 3;have p4:=zk JJ 4 _ rfl;have g4:=zB JJ 4;have p5:=zk JJ 5 _ rfl;have g5:=zB JJ 5;have p6:=zk JJ 6 _ rfl;have g6:=zB JJ 6;clear JJ)
  refine Xl (v:= .tuple #[zp ZY jv,.int .i64 2]) (by simp[results,Tryz.results43,go_sem,p0,p1,p2,p3,p4,p5,p6,jv]) rfl ⟨ZY,jv,2,rfl,q00 _ _,HW.out,E.out⟩
end Go.Proofs.YtcmiljnbmgkdnaaGreat
