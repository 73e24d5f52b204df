import Derived.Test.YtdbfllajopcccaaGreatFA19
namespace Go.Proofs.YtdbfllajopcccaaGreat
set_option maxRecDepth 100000
set_option linter.unusedVariables false
set_option linter.unusedSimpArgs false
open Go.ChangeShapes Go.WideShapes Go.ChangeAt Go.RowKit
def Zm(a b:Int)(v:Nat):Int:=(if(v:Int)=b then 1 else 0) - (if(v:Int)=a then 1 else 0)
theorem q5j(n:Nat)(a b most:Int):(qN n a b most).1=qz n (Zm a b):=rfl
theorem q1s{n:Nat}{F G:Nat→Int}(h:∀v,v<n→F v=G v):qz n F=qz n G:=by
 unfold qz;exact List.map_congr_left (fun v hv=>h v (List.mem_range.mp hv))
theorem qq2(n an bn:Nat):qz n (zU (zU (fun _=>0) an (-1)) bn (zU (fun _=>(0:Int)) an (-1) bn+1))=qz n (Zm (an:Int) (bn:Int)):=q1s fun v _=>by
 unfold zU Zm;by_cases h1:v=bn<;>by_cases h2:v=an<;>simp[h1,h2]<;>(try omega)<;>(try(split<;>split<;>omega))<;>(try(split<;>omega))
theorem rule_a(n an:Nat){b:Int}(hb:b<0):qz n (zU (fun _=>0) an (-1))=qz n (Zm (an:Int) b):=q1s fun v _=>by
 unfold zU Zm;rw[if_neg (show ¬(v:Int)=b by omega)];by_cases h2:v=an
 ·rw[if_pos h2,if_pos (by omega)];rfl
 ·rw[if_neg h2,if_neg (by omega)];rfl
theorem rule_b(n bn:Nat){a:Int}(ha:a<0):qz n (zU (fun _=>0) bn 1)=qz n (Zm a (bn:Int)):=q1s fun v _=>by
 unfold zU Zm;rw[if_neg (show ¬(v:Int)=a by omega)];by_cases h2:v=bn
 ·rw[if_pos h2,if_pos (by omega)];rfl
 ·rw[if_neg h2,if_neg (by omega)];rfl
theorem rule_0(n:Nat){a b:Int}(ha:a<0)(hb:b<0):qz n (fun _=>0)=qz n (Zm a b):=q1s fun v _=>by
 unfold Zm;rw[if_neg (by omega),if_neg (by omega)];rfl
def qrp(n:Nat)(a b most:Int)(w:World)(e:Ending)(w':World):Prop:=∃g,e= .returned (.agg #[.slice (some ⟨g,0,none⟩) n n,.int .i64 most])∧w.heap.size≤g∧zZ w' g (qz n (Zm a b))∧Below w.heap.size w w'
theorem q29(n:Nat)(most:Int)(w:World):(zf ((((w.alloc (.cells #[.slice none 0 0,.int .i64 0] 49)).alloc (.cells (madeCells #[.int .i64 0] n) 3)).alloc (.cells #[.slice (some ⟨w.heap.size+1,0,none⟩) n n,.int .i64 most] 49))) w.heap.size [.slice none 0 0,.int .i64 0] 49∧
  zf ((((w.alloc (.cells #[.slice none 0 0,.int .i64 0] 49)).alloc (.cells (madeCells #[.int .i64 0] n) 3)).alloc (.cells #[.slice (some ⟨w.heap.size+1,0,none⟩) n n,.int .i64 most] 49))) (w.heap.size+1+1) [.slice (some ⟨w.heap.size+1,0,none⟩) n n,.int .i64 most] 49∧
  zZ ((((w.alloc (.cells #[.slice none 0 0,.int .i64 0] 49)).alloc (.cells (madeCells #[.int .i64 0] n) 3)).alloc (.cells #[.slice (some ⟨w.heap.size+1,0,none⟩) n n,.int .i64 most] 49))) (w.heap.size+1) (qz n (fun _=>0)))∧
  Below w.heap.size w ((((w.alloc (.cells #[.slice none 0 0,.int .i64 0] 49)).alloc (.cells (madeCells #[.int .i64 0] n) 3)).alloc (.cells #[.slice (some ⟨w.heap.size+1,0,none⟩) n n,.int .i64 most] 49))):=by
 have e:∀(W:World) (y:Obj) (k:Nat),k<W.heap.size→(W.alloc y).heap[k]? =W.heap[k]? :=fun W y k hk=>Below.heap_alloc W y k hk;have hm:madeCells #[Value.int .i64 0] n=((qz n (fun _=>0)).map (Value.int .i64)).toArray:=by
  have h1:=JF (z:= .int .i64 0) (v:= .int .i64 0) rfl n;have hc:(Value.int .i64 0).cells= #[Value.int .i64 0]:=rfl;rw[Nat.mul_one,hc]at h1;refine Array.toList_inj.mp ?_;rw[h1];show List.replicate n _=(qz n fun _=>0).map _;refine List.ext_getElem? fun i=> ?_;unfold qz;rw[List.getElem?_map,List.getElem?_map,List.getElem?_replicate];by_cases h:i<n
  ·rw[List.getElem?_range h,if_pos h];rfl
  ·rw[List.getElem?_eq_none (by rw[List.length_range];omega),if_neg h];rfl
 refine⟨⟨?_,?_,?_⟩,(((zb _ _).alloc (zn _) _).alloc (by simp) _).alloc (by simp;omega) _⟩
 ·unfold zf;rw[e _ _ _ (by simp;omega),e _ _ _ (by simp)];exact heap_alloc_new _ _
 ·unfold zf;have:=heap_alloc_new ((w.alloc (.cells #[.slice none 0 0,.int .i64 0] 49)).alloc (.cells (madeCells #[.int .i64 0] n) 3)) (.cells #[.slice (some ⟨w.heap.size+1,0,none⟩) n n,.int .i64 most] 49);have hz:((w.alloc (.cells #[.slice none 0 0,.int .i64 0] 49)).alloc (.cells (madeCells #[.int .i64 0] n) 3)).heap.size=w.heap.size+1+1:=by simp
  rw[hz]at this;exact this
 ·unfold zZ zf;rw[e _ _ _ (by simp),hm];have:=heap_alloc_new (w.alloc (.cells #[.slice none 0 0,.int .i64 0] 49)) (.cells ((qz n (fun _=>0)).map (Value.int .i64)).toArray 3);have hz:(w.alloc (.cells #[.slice none 0 0,.int .i64 0] 49)).heap.size=w.heap.size+1:=by simp
  rw[hz]at this;exact this
set_option maxHeartbeats 1600000 in
theorem q51(n:Nat)(a b most:Int)(w:World)(hn:n≤1000)(ha:a<n)(hb:b<n):
  Calls Tryz.prog 15 #[.int .i64 n,.int .i64 a,.int .i64 b,.int .i64 most] w (qrp n a b most w):=by
 have hmk:=run_make_row' (P:=Tryz.prog) 26 3 (.int .i64 0) 8 Tryz.underlying26 kp rfl .i64 .i64 n (by omega) (by omega);have HN:Hid (n≤1000):=zH hn;have HN:Hid (n≤1000):=zH hn;have HN:Hid (n≤1000):=zH hn;have HN:Hid (n≤1000):=zH hn;by_cases a0:0≤a;all_goals by_cases b0:0≤b
 ·obtain⟨an,rfl⟩:=Int.eq_ofNat_of_zero_le a0;have han:an<n:=by omega
  obtain⟨bn,rfl⟩:=Int.eq_ofNat_of_zero_le b0;have hbn:bn<n:=by omega
  go_enter Tryz.func15,Tryz.ntmps15;go_upto_region 2 with fail
  obtain⟨HA,HB⟩:=q29 n most w;have HR0:=zH HA.1;have HR2:=zH HA.2.1;have H1:=zH HA.2.2;have X1:=zH HB;clear HA HB;generalize(((w.alloc (.cells #[.slice none 0 0,.int .i64 0] 49)).alloc (.cells (madeCells #[.int .i64 0] n) 3)).alloc (.cells #[.slice (some ⟨w.heap.size+1,0,none⟩) n n,.int .i64 most] 49))=w1 at*
  obtain⟨N,hN⟩:∃z,w.heap.size=z:=⟨_,rfl⟩
  rw[hN]at HR0 HR2 H1⊢
  have HNE:=zH hN;clear hN;have q0:=HR2.out.cells 0 _ rfl;have q1:=HR2.out.cells 1 _ rfl;have c1:=H1.out.at_ (t:=an) (by rw[kL];exact han);rw[Yu _ han]at c1;have f1:=zf.free H1.out an;have HS2:Hid (zZ (w1.setCell ⟨N+1,an,none⟩ (.int .i64 (-1))) (N+1) (qz n (zU (fun _=>0) an (-1)))):=zH (by have h:=H1.out.set (t:=an) (-1);rw[Yn]at h;exact h);have HT2:=zH (vJ HR2.out (a:=⟨N+1,an,none⟩) (by show N+1+1≠N+1;omega) (.int .i64 (-1)));have HU2:=zH (vJ HR0.out (a:=⟨N+1,an,none⟩) (by show N≠N+1;omega) (.int .i64 (-1)));have X2:=zH (X1.out.setCell (p:=⟨N+1,an,none⟩) (by show w.heap.size≤N+1;rw[HNE.out];omega) (.int .i64 (-1)));go_upto_region 4 with fail
  clear HR0 HR2 q0 q1 c1 f1;have HR0:=HU2;have HR2:=HT2;have H2:=HS2;clear HU2 HT2 HS2;generalize w1.setCell ⟨N+1,an,none⟩ (.int .i64 (-1))=w2 at*
  have q0:=HR2.out.cells 0 _ rfl;have q1:=HR2.out.cells 1 _ rfl;have c1:=H2.out.at_ (t:=bn) (by rw[kL];exact hbn);rw[Yu _ hbn]at c1;have f1:=zf.free H2.out bn;obtain⟨vv,hvv⟩:∃z,(zU (fun _=>0) an (-1)) bn=z:=⟨_,rfl⟩
  rw[hvv]at c1;have hvr: -1≤vv∧vv≤1:=by rw[←hvv];unfold zU;split<;>(try dsimp only)<;>omega
  have HVV:=zH hvv;clear hvv;have HS3:Hid (zZ (w2.setCell ⟨N+1,bn,none⟩ (.int .i64 (vv+1))) (N+1) (qz n (zU (zU (fun _=>0) an (-1)) bn (vv+1)))):=zH (by have h:=H2.out.set (t:=bn) (vv+1);rw[Yn]at h;exact h);have HT3:=zH (vJ HR2.out (a:=⟨N+1,bn,none⟩) (by show N+1+1≠N+1;omega) (.int .i64 (vv+1)));have HU3:=zH (vJ HR0.out (a:=⟨N+1,bn,none⟩) (by show N≠N+1;omega) (.int .i64 (vv+1)));have X3:=zH (X2.out.setCell (p:=⟨N+1,bn,none⟩) (by show w.heap.size≤N+1;rw[HNE.out];omega) (.int .i64 (vv+1)));go_upto_region 6 with fail
  clear HR0 HR2 q0 q1 c1 f1;have HR0:=HU3;have HR2:=HT3;have H3:=HS3;clear HU3 HT3 HS3;generalize w2.setCell ⟨N+1,bn,none⟩ (.int .i64 (vv+1))=w3 at*
  have q0:=HR2.out.cells 0 _ rfl;have q1:=HR2.out.cells 1 _ rfl;have r0:=HR0.out.cells 0 _ rfl;have r1:=HR0.out.cells 1 _ rfl;have g0:=HR0.out.free 0;have g1:=HR0.out.free 1;have HZ2:=zH ((HR0.out.set 0 (.slice (some ⟨N+1,0,none⟩) n n)).set 1 (.int .i64 most));go_wp2_with fail
  have z0:=HZ2.out.cells 0 _ rfl;have z1:=HZ2.out.cells 1 _ rfl;refine bodyPost_ret (v:= .agg #[.slice (some ⟨N+1,0,none⟩) n n,.int .i64 most]) (by simp[results,Tryz.results15,go_sem,z0,z1]) rfl ?_;have hrow:zZ w3 (N+1) (qz n (Zm (an:Int) (bn:Int))):=by have h:=H3.out;rw[←HVV.out,qq2]at h;exact h
  exact⟨N+1,rfl,by rw[HNE.out];omega,vJ (vJ hrow (a:=⟨N,0,none⟩) (by show N+1≠N;omega) _) (a:=⟨N,1,none⟩) (by show N+1≠N;omega) _,(X3.out.setCell (p:=⟨N,0,none⟩) (by show w.heap.size≤N;rw[HNE.out];omega) _).setCell (p:=⟨N,1,none⟩) (by show w.heap.size≤N;rw[HNE.out];omega) _⟩
 ·obtain⟨an,rfl⟩:=Int.eq_ofNat_of_zero_le a0;have han:an<n:=by omega
  go_enter Tryz.func15,Tryz.ntmps15;go_upto_region 2 with fail
  obtain⟨HA,HB⟩:=q29 n most w;have HR0:=zH HA.1;have HR2:=zH HA.2.1;have H1:=zH HA.2.2;have X1:=zH HB;clear HA HB;generalize(((w.alloc (.cells #[.slice none 0 0,.int .i64 0] 49)).alloc (.cells (madeCells #[.int .i64 0] n) 3)).alloc (.cells #[.slice (some ⟨w.heap.size+1,0,none⟩) n n,.int .i64 most] 49))=w1 at*
  obtain⟨N,hN⟩:∃z,w.heap.size=z:=⟨_,rfl⟩
  rw[hN]at HR0 HR2 H1⊢
  have HNE:=zH hN;clear hN;have q0:=HR2.out.cells 0 _ rfl;have q1:=HR2.out.cells 1 _ rfl;have c1:=H1.out.at_ (t:=an) (by rw[kL];exact han);rw[Yu _ han]at c1;have f1:=zf.free H1.out an;have HS2:Hid (zZ (w1.setCell ⟨N+1,an,none⟩ (.int .i64 (-1))) (N+1) (qz n (zU (fun _=>0) an (-1)))):=zH (by have h:=H1.out.set (t:=an) (-1);rw[Yn]at h;exact h);have HT2:=zH (vJ HR2.out (a:=⟨N+1,an,none⟩) (by show N+1+1≠N+1;omega) (.int .i64 (-1)));have HU2:=zH (vJ HR0.out (a:=⟨N+1,an,none⟩) (by show N≠N+1;omega) (.int .i64 (-1)));have X2:=zH (X1.out.setCell (p:=⟨N+1,an,none⟩) (by show w.heap.size≤N+1;rw[HNE.out];omega) (.int .i64 (-1)));go_upto_region 4 with fail
  clear HR0 HR2 q0 q1 c1 f1;have HR0:=HU2;have HR2:=HT2;have H2:=HS2;clear HU2 HT2 HS2;generalize w1.setCell ⟨N+1,an,none⟩ (.int .i64 (-1))=w2 at*
  have q0:=HR2.out.cells 0 _ rfl;have q1:=HR2.out.cells 1 _ rfl;have r0:=HR0.out.cells 0 _ rfl;have r1:=HR0.out.cells 1 _ rfl;have g0:=HR0.out.free 0;have g1:=HR0.out.free 1;have HZ2:=zH ((HR0.out.set 0 (.slice (some ⟨N+1,0,none⟩) n n)).set 1 (.int .i64 most));go_wp2_with fail
  have z0:=HZ2.out.cells 0 _ rfl;have z1:=HZ2.out.cells 1 _ rfl;refine bodyPost_ret (v:= .agg #[.slice (some ⟨N+1,0,none⟩) n n,.int .i64 most]) (by simp[results,Tryz.results15,go_sem,z0,z1]) rfl ?_;have hrow:zZ w2 (N+1) (qz n (Zm (an:Int) b)):=by have h:=H2.out;rw[rule_a n an b0]at h;exact h
  exact⟨N+1,rfl,by rw[HNE.out];omega,vJ (vJ hrow (a:=⟨N,0,none⟩) (by show N+1≠N;omega) _) (a:=⟨N,1,none⟩) (by show N+1≠N;omega) _,(X2.out.setCell (p:=⟨N,0,none⟩) (by show w.heap.size≤N;rw[HNE.out];omega) _).setCell (p:=⟨N,1,none⟩) (by show w.heap.size≤N;rw[HNE.out];omega) _⟩
 ·obtain⟨bn,rfl⟩:=Int.eq_ofNat_of_zero_le b0;have hbn:bn<n:=by omega
  go_enter Tryz.func15,Tryz.ntmps15;go_upto_region 2 with fail
  obtain⟨HA,HB⟩:=q29 n most w;have HR0:=zH HA.1;have HR2:=zH HA.2.1;have H1:=zH HA.2.2;have X1:=zH HB;clear HA HB;generalize(((w.alloc (.cells #[.slice none 0 0,.int .i64 0] 49)).alloc (.cells (madeCells #[.int .i64 0] n) 3)).alloc (.cells #[.slice (some ⟨w.heap.size+1,0,none⟩) n n,.int .i64 most] 49))=w1 at*
  obtain⟨N,hN⟩:∃z,w.heap.size=z:=⟨_,rfl⟩
  rw[hN]at HR0 HR2 H1⊢
  have HNE:=zH hN;clear hN;have q0:=HR2.out.cells 0 _ rfl;have q1:=HR2.out.cells 1 _ rfl;have c1:=H1.out.at_ (t:=bn) (by rw[kL];exact hbn);rw[Yu _ hbn]at c1;have f1:=zf.free H1.out bn;have HS2:Hid (zZ (w1.setCell ⟨N+1,bn,none⟩ (.int .i64 1)) (N+1) (qz n (zU (fun _=>0) bn 1))):=zH (by have h:=H1.out.set (t:=bn) 1;rw[Yn]at h;exact h);have HT2:=zH (vJ HR2.out (a:=⟨N+1,bn,none⟩) (by show N+1+1≠N+1;omega) (.int .i64 1));have HU2:=zH (vJ HR0.out (a:=⟨N+1,bn,none⟩) (by show N≠N+1;omega) (.int .i64 1));have X2:=zH (X1.out.setCell (p:=⟨N+1,bn,none⟩) (by show w.heap.size≤N+1;rw[HNE.out];omega) (.int .i64 1));go_upto_region 6 with fail
  clear HR0 HR2 q0 q1 c1 f1;have HR0:=HU2;have HR2:=HT2;have H2:=HS2;clear HU2 HT2 HS2;generalize w1.setCell ⟨N+1,bn,none⟩ (.int .i64 1)=w2 at*
  have q0:=HR2.out.cells 0 _ rfl;have q1:=HR2.out.cells 1 _ rfl;have r0:=HR0.out.cells 0 _ rfl;have r1:=HR0.out.cells 1 _ rfl;have g0:=HR0.out.free 0;have g1:=HR0.out.free 1;have HZ2:=zH ((HR0.out.set 0 (.slice (some ⟨N+1,0,none⟩) n n)).set 1 (.int .i64 most));go_wp2_with fail
  have z0:=HZ2.out.cells 0 _ rfl;have z1:=HZ2.out.cells 1 _ rfl;refine bodyPost_ret (v:= .agg #[.slice (some ⟨N+1,0,none⟩) n n,.int .i64 most]) (by simp[results,Tryz.results15,go_sem,z0,z1]) rfl ?_;have hrow:zZ w2 (N+1) (qz n (Zm a (bn:Int))):=by have h:=H2.out;rw[rule_b n bn a0]at h;exact h
  exact⟨N+1,rfl,by rw[HNE.out];omega,vJ (vJ hrow (a:=⟨N,0,none⟩) (by show N+1≠N;omega) _) (a:=⟨N,1,none⟩) (by show N+1≠N;omega) _,(X2.out.setCell (p:=⟨N,0,none⟩) (by show w.heap.size≤N;rw[HNE.out];omega) _).setCell (p:=⟨N,1,none⟩) (by show w.heap.size≤N;rw[HNE.out];omega) _⟩
 ·go_enter Tryz.func15,Tryz.ntmps15;go_upto_region 2 with fail
  obtain⟨HA,HB⟩:=q29 n most w;have HR0:=zH HA.1;have HR2:=zH HA.2.1;have H1:=zH HA.2.2;have X1:=zH HB;clear HA HB;generalize(((w.alloc (.cells #[.slice none 0 0,.int .i64 0] 49)).alloc (.cells (madeCells #[.int .i64 0] n) 3)).alloc (.cells #[.slice (some ⟨w.heap.size+1,0,none⟩) n n,.int .i64 most] 49))=w1 at*
  obtain⟨N,hN⟩:∃z,w.heap.size=z:=⟨_,rfl⟩
  rw[hN]at HR0 HR2 H1⊢
  have HNE:=zH hN;clear hN;have q0:=HR2.out.cells 0 _ rfl;have q1:=HR2.out.cells 1 _ rfl;have r0:=HR0.out.cells 0 _ rfl;have r1:=HR0.out.cells 1 _ rfl;have g0:=HR0.out.free 0;have g1:=HR0.out.free 1;have HZ2:=zH ((HR0.out.set 0 (.slice (some ⟨N+1,0,none⟩) n n)).set 1 (.int .i64 most));go_wp2_with fail
  have z0:=HZ2.out.cells 0 _ rfl;have z1:=HZ2.out.cells 1 _ rfl;refine bodyPost_ret (v:= .agg #[.slice (some ⟨N+1,0,none⟩) n n,.int .i64 most]) (by simp[results,Tryz.results15,go_sem,z0,z1]) rfl ?_;have hrow:zZ w1 (N+1) (qz n (Zm a b)):=by have h:=H1.out;rw[rule_0 n a0 b0]at h;exact h
  exact⟨N+1,rfl,by rw[HNE.out];omega,vJ (vJ hrow (a:=⟨N,0,none⟩) (by show N+1≠N;omega) _) (a:=⟨N,1,none⟩) (by show N+1≠N;omega) _,(X1.out.setCell (p:=⟨N,0,none⟩) (by show w.heap.size≤N;rw[HNE.out];omega) _).setCell (p:=⟨N,1,none⟩) (by show w.heap.size≤N;rw[HNE.out];omega) _⟩
end Go.Proofs.YtdbfllajopcccaaGreat
