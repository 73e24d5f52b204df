import Derived.Test.YtdbfllajopcccaaGreatFA04
namespace Go.Proofs.YtdbfllajopcccaaGreat
set_option maxRecDepth 100000
set_option linter.unusedVariables false
set_option linter.unusedSimpArgs false
open Go.ChangeShapes Go.WideShapes Go.ChangeAt Go.RowKit
theorem q3n{P:Prop}(h:P:=by
 go_wp2_with fail
 go_region
 all_goals
  go_wp2_with fail
  go_ret2
  refine⟨_,_,_,_,rfl,?_,?_,?_⟩
  ·exact ji
  ·exact vi (by simp;omega) (by go_simp) (by go_simp)
  ·exact HW.out.trans (by repeat(first|exact zb _ _|refine Below.alloc ?_ (by first|omega|(simp;omega)) _|refine Below.drew ?_))):P:=h
theorem rule_1(m:za)(x:ze)(f:Nat)(a b:Int)(h:zl)(w:World):
  Calls Tryz.prog 32 #[zr h m,.int .i64 f,zF 1 a b] w (jR (zE m x 1 a b) (zB m x 1 a b) w):=by
 have e1:zE m x 1 a b=[]:=by simp[zE]
 have e2:zB m x 1 a b=[(1,0)]:=by simp[zB]
 rw[e1,e2];clear e1 e2;obtain⟨hw,hp⟩:=jY h m 1 a b w;have HW:=zH hw;have HP:=zH hp;clear hw hp;go_enter Tryz.func32,Tryz.ntmps32;go_upto_region 3 with fail
 change Code.wp _ _ _ _ (ql h m 1 a b w);generalize ql h m 1 a b w=w1 at*
 have o0:=HP.out.ins 0 _ rfl;have hz:=HP.out.size;have t10:=HP.out.t1 0 _ rfl;have t11:=HP.out.t1 1 _ rfl;exact q3n
theorem rule_2(m:za)(x:ze)(f:Nat)(a b:Int)(h:zl)(w:World):
  Calls Tryz.prog 32 #[zr h m,.int .i64 f,zF 2 a b] w (jR (zE m x 2 a b) (zB m x 2 a b) w):=by
 have e1:zE m x 2 a b=[]:=by simp[zE]
 have e2:zB m x 2 a b=[(4,0)]:=by simp[zB]
 rw[e1,e2];clear e1 e2;obtain⟨hw,hp⟩:=jY h m 2 a b w;have HW:=zH hw;have HP:=zH hp;clear hw hp;go_enter Tryz.func32,Tryz.ntmps32;go_upto_region 3 with fail
 change Code.wp _ _ _ _ (ql h m 2 a b w);generalize ql h m 2 a b w=w1 at*
 have o0:=HP.out.ins 0 _ rfl;have hz:=HP.out.size;have t40:=HP.out.t4 0 _ rfl;have t41:=HP.out.t4 1 _ rfl;exact q3n
theorem rule_5(m:za)(x:ze)(f:Nat)(a b:Int)(h:zl)(w:World):
  Calls Tryz.prog 32 #[zr h m,.int .i64 f,zF 5 a b] w (jR (zE m x 5 a b) (zB m x 5 a b) w):=by
 have e1:zE m x 5 a b=[(0,0)]:=by simp[zE]
 have e2:zB m x 5 a b=[]:=by simp[zB]
 rw[e1,e2];clear e1 e2;obtain⟨hw,hp⟩:=jY h m 5 a b w;have HW:=zH hw;have HP:=zH hp;clear hw hp;go_enter Tryz.func32,Tryz.ntmps32;go_upto_region 3 with fail
 change Code.wp _ _ _ _ (ql h m 5 a b w);generalize ql h m 5 a b w=w1 at*
 have o0:=HP.out.ins 0 _ rfl;have hz:=HP.out.size;have t00:=HP.out.t0 0 _ rfl;have t01:=HP.out.t0 1 _ rfl;go_wp2_with fail
 go_ret2
 refine⟨_,_,_,_,rfl,?_,?_,?_⟩
 ·exact vi (by simp;omega) (by go_simp) (by go_simp)
 ·exact ji
 ·exact HW.out.trans (by repeat(first|exact zb _ _|refine Below.alloc ?_ (by first|omega|(simp;omega)) _|refine Below.drew ?_))
theorem q84{P:Prop}(h:P:=by
 have o0:=HP.out.ins 0 _ rfl;have hz:=HP.out.size;go_wp2_with fail
 go_ret2
 refine⟨_,_,_,_,rfl,?_,?_,?_⟩
 ·exact ji
 ·exact ji
 ·exact HW.out.trans (by repeat(first|exact zb _ _|refine Below.alloc ?_ (by first|omega|(simp;omega)) _|refine Below.drew ?_))):P:=h
theorem rule_6(m:za)(x:ze)(f:Nat)(a b:Int)(h:zl)(w:World):
  Calls Tryz.prog 32 #[zr h m,.int .i64 f,zF 6 a b] w (jR (zE m x 6 a b) (zB m x 6 a b) w):=by
 have e1:zE m x 6 a b=[]:=by simp[zE]
 have e2:zB m x 6 a b=[]:=by simp[zB]
 rw[e1,e2];clear e1 e2;obtain⟨hw,hp⟩:=jY h m 6 a b w;have HW:=zH hw;have HP:=zH hp;clear hw hp;go_enter Tryz.func32,Tryz.ntmps32;go_upto_region 3 with fail
 change Code.wp _ _ _ _ (ql h m 6 a b w);generalize ql h m 6 a b w=w1 at*
 exact q84
theorem qqj(m:za)(x:ze)(f:Nat)(a b:Int)(h:zl)(w:World):
  Calls Tryz.prog 32 #[zr h m,.int .i64 f,zF 18 a b] w (jR (zE m x 18 a b) (zB m x 18 a b) w):=by
 have e1:zE m x 18 a b=[]:=by simp[zE]
 have e2:zB m x 18 a b=[]:=by simp[zB]
 rw[e1,e2];clear e1 e2;obtain⟨hw,hp⟩:=jY h m 18 a b w;have HW:=zH hw;have HP:=zH hp;clear hw hp;go_enter Tryz.func32,Tryz.ntmps32;go_upto_region 3 with fail
 change Code.wp _ _ _ _ (ql h m 18 a b w);generalize ql h m 18 a b w=w1 at*
 exact q84
theorem qqi(m:za)(x:ze)(f:Nat)(a b:Int)(h:zl)(w:World):
  Calls Tryz.prog 32 #[zr h m,.int .i64 f,zF 19 a b] w (jR (zE m x 19 a b) (zB m x 19 a b) w):=by
 have e1:zE m x 19 a b=[(1,0)]:=by simp[zE]
 have e2:zB m x 19 a b=[]:=by simp[zB]
 rw[e1,e2];clear e1 e2;obtain⟨hw,hp⟩:=jY h m 19 a b w;have HW:=zH hw;have HP:=zH hp;clear hw hp;go_enter Tryz.func32,Tryz.ntmps32;go_upto_region 3 with fail
 change Code.wp _ _ _ _ (ql h m 19 a b w);generalize ql h m 19 a b w=w1 at*
 have o0:=HP.out.ins 0 _ rfl;have hz:=HP.out.size;have t10:=HP.out.t1 0 _ rfl;have t11:=HP.out.t1 1 _ rfl;go_wp2_with fail
 go_ret2
 refine⟨_,_,_,_,rfl,?_,?_,?_⟩
 ·exact vi (by simp;omega) (by go_simp) (by go_simp)
 ·exact ji
 ·exact HW.out.trans (by repeat(first|exact zb _ _|refine Below.alloc ?_ (by first|omega|(simp;omega)) _|refine Below.drew ?_))
theorem q15{P:Prop}(h:P:=by
 go_wp2_with fail
 go_region
 all_goals
  go_wp2_with fail
  go_ret2
  refine⟨_,_,_,_,rfl,?_,?_,?_⟩
  ·exact vi (by simp;omega) (by go_simp) (by go_simp)
  ·exact vi (by simp;omega) (by go_simp) (by go_simp)
  ·exact HW.out.trans (by repeat(first|exact zb _ _|refine Below.alloc ?_ (by first|omega|(simp;omega)) _|refine Below.drew ?_))):P:=h
theorem qqh(m:za)(x:ze)(f:Nat)(a b:Int)(h:zl)(w:World):
  Calls Tryz.prog 32 #[zr h m,.int .i64 f,zF 20 a b] w (jR (zE m x 20 a b) (zB m x 20 a b) w):=by
 have e1:zE m x 20 a b=[(4,0)]:=by simp[zE]
 have e2:zB m x 20 a b=[(1,0)]:=by simp[zB]
 rw[e1,e2];clear e1 e2;obtain⟨hw,hp⟩:=jY h m 20 a b w;have HW:=zH hw;have HP:=zH hp;clear hw hp;go_enter Tryz.func32,Tryz.ntmps32;go_upto_region 3 with fail
 change Code.wp _ _ _ _ (ql h m 20 a b w);generalize ql h m 20 a b w=w1 at*
 have o0:=HP.out.ins 0 _ rfl;have hz:=HP.out.size;have t10:=HP.out.t1 0 _ rfl;have t11:=HP.out.t1 1 _ rfl;have t40:=HP.out.t4 0 _ rfl;have t41:=HP.out.t4 1 _ rfl;exact q15
theorem q85{P:Prop}(h:P:=by
 go_wp2_with fail
 go_region
 all_goals
  go_wp2_with fail
  go_ret2
  refine⟨_,_,_,_,rfl,?_,?_,?_⟩
  ·exact q2s (by simp;omega) (by go_simp) (by go_simp) (by go_simp) (by go_simp)
  ·exact vi (by simp;omega) (by go_simp) (by go_simp)
  ·exact HW.out.trans (by repeat(first|exact zb _ _|refine Below.alloc ?_ (by first|omega|(simp;omega)) _|refine Below.drew ?_))):P:=h
theorem qqg(m:za)(x:ze)(f:Nat)(a b:Int)(h:zl)(w:World):
  Calls Tryz.prog 32 #[zr h m,.int .i64 f,zF 21 a b] w (jR (zE m x 21 a b) (zB m x 21 a b) w):=by
 have e1:zE m x 21 a b=[(4,0),(4,0)]:=by simp[zE]
 have e2:zB m x 21 a b=[(1,0)]:=by simp[zB]
 rw[e1,e2];clear e1 e2;obtain⟨hw,hp⟩:=jY h m 21 a b w;have HW:=zH hw;have HP:=zH hp;clear hw hp;go_enter Tryz.func32,Tryz.ntmps32;go_upto_region 3 with fail
 change Code.wp _ _ _ _ (ql h m 21 a b w);generalize ql h m 21 a b w=w1 at*
 have o0:=HP.out.ins 0 _ rfl;have hz:=HP.out.size;have t10:=HP.out.t1 0 _ rfl;have t11:=HP.out.t1 1 _ rfl;have t40:=HP.out.t4 0 _ rfl;have t41:=HP.out.t4 1 _ rfl;exact q85
theorem qqf(m:za)(x:ze)(f:Nat)(a b:Int)(h:zl)(w:World):
  Calls Tryz.prog 32 #[zr h m,.int .i64 f,zF 22 a b] w (jR (zE m x 22 a b) (zB m x 22 a b) w):=by
 have e1:zE m x 22 a b=[]:=by simp[zE]
 have e2:zB m x 22 a b=[(3,a)]:=by simp[zB]
 rw[e1,e2];clear e1 e2;obtain⟨hw,hp⟩:=jY h m 22 a b w;have HW:=zH hw;have HP:=zH hp;clear hw hp;go_enter Tryz.func32,Tryz.ntmps32;go_upto_region 3 with fail
 change Code.wp _ _ _ _ (ql h m 22 a b w);generalize ql h m 22 a b w=w1 at*
 have o0:=HP.out.ins 0 _ rfl;have hz:=HP.out.size;have t30:=HP.out.t3 0 _ rfl;have t31:=HP.out.t3 1 _ rfl;exact q3n
theorem qqe(m:za)(x:ze)(f:Nat)(a b:Int)(h:zl)(w:World):
  Calls Tryz.prog 32 #[zr h m,.int .i64 f,zF 23 a b] w (jR (zE m x 23 a b) (zB m x 23 a b) w):=by
 have e1:zE m x 23 a b=[(1,0)]:=by simp[zE]
 have e2:zB m x 23 a b=[(2,0)]:=by simp[zB]
 rw[e1,e2];clear e1 e2;obtain⟨hw,hp⟩:=jY h m 23 a b w;have HW:=zH hw;have HP:=zH hp;clear hw hp;go_enter Tryz.func32,Tryz.ntmps32;go_upto_region 3 with fail
 change Code.wp _ _ _ _ (ql h m 23 a b w);generalize ql h m 23 a b w=w1 at*
 have o0:=HP.out.ins 0 _ rfl;have hz:=HP.out.size;have t10:=HP.out.t1 0 _ rfl;have t11:=HP.out.t1 1 _ rfl;have t20:=HP.out.t2 0 _ rfl;have t21:=HP.out.t2 1 _ rfl;exact q15
theorem qqd(m:za)(x:ze)(f:Nat)(a b:Int)(h:zl)(w:World):
  Calls Tryz.prog 32 #[zr h m,.int .i64 f,zF 24 a b] w (jR (zE m x 24 a b) (zB m x 24 a b) w):=by
 have e1:zE m x 24 a b=[(2,0),(1,0)]:=by simp[zE]
 have e2:zB m x 24 a b=[(1,0)]:=by simp[zB]
 rw[e1,e2];clear e1 e2;obtain⟨hw,hp⟩:=jY h m 24 a b w;have HW:=zH hw;have HP:=zH hp;clear hw hp;go_enter Tryz.func32,Tryz.ntmps32;go_upto_region 3 with fail
 change Code.wp _ _ _ _ (ql h m 24 a b w);generalize ql h m 24 a b w=w1 at*
 have o0:=HP.out.ins 0 _ rfl;have hz:=HP.out.size;have t10:=HP.out.t1 0 _ rfl;have t11:=HP.out.t1 1 _ rfl;have t20:=HP.out.t2 0 _ rfl;have t21:=HP.out.t2 1 _ rfl;exact q85
theorem qqc(m:za)(x:ze)(f:Nat)(a b:Int)(h:zl)(w:World):
  Calls Tryz.prog 32 #[zr h m,.int .i64 f,zF 25 a b] w (jR (zE m x 25 a b) (zB m x 25 a b) w):=by
 have e1:zE m x 25 a b=[(2,0),(1,0),(1,0)]:=by simp[zE]
 have e2:zB m x 25 a b=[]:=by simp[zB]
 rw[e1,e2];clear e1 e2;obtain⟨hw,hp⟩:=jY h m 25 a b w;have HW:=zH hw;have HP:=zH hp;clear hw hp;go_enter Tryz.func32,Tryz.ntmps32;go_upto_region 3 with fail
 change Code.wp _ _ _ _ (ql h m 25 a b w);generalize ql h m 25 a b w=w1 at*
 have o0:=HP.out.ins 0 _ rfl;have hz:=HP.out.size;have t10:=HP.out.t1 0 _ rfl;have t11:=HP.out.t1 1 _ rfl;have t20:=HP.out.t2 0 _ rfl;have t21:=HP.out.t2 1 _ rfl;go_wp2_with fail
 go_ret2
 refine⟨_,_,_,_,rfl,?_,?_,?_⟩
 ·exact new_t3 (by simp;omega) (by go_simp) (by go_simp) (by go_simp) (by go_simp) (by go_simp) (by go_simp)
 ·exact ji
 ·exact HW.out.trans (by repeat(first|exact zb _ _|refine Below.alloc ?_ (by first|omega|(simp;omega)) _|refine Below.drew ?_))
theorem qqb(m:za)(x:ze)(f:Nat)(a b:Int)(h:zl)(w:World):
  Calls Tryz.prog 32 #[zr h m,.int .i64 f,zF 26 a b] w (jR (zE m x 26 a b) (zB m x 26 a b) w):=by
 have e1:zE m x 26 a b=[(2,0)]:=by simp[zE]
 have e2:zB m x 26 a b=[(1,0)]:=by simp[zB]
 rw[e1,e2];clear e1 e2;obtain⟨hw,hp⟩:=jY h m 26 a b w;have HW:=zH hw;have HP:=zH hp;clear hw hp;go_enter Tryz.func32,Tryz.ntmps32;go_upto_region 3 with fail
 change Code.wp _ _ _ _ (ql h m 26 a b w);generalize ql h m 26 a b w=w1 at*
 have o0:=HP.out.ins 0 _ rfl;have hz:=HP.out.size;have t10:=HP.out.t1 0 _ rfl;have t11:=HP.out.t1 1 _ rfl;have t20:=HP.out.t2 0 _ rfl;have t21:=HP.out.t2 1 _ rfl;exact q15
theorem qq3(m:za)(x:ze)(f:Nat)(a b:Int)(h:zl)(w:World):
  Calls Tryz.prog 32 #[zr h m,.int .i64 f,zF 34 a b] w (jR (zE m x 34 a b) (zB m x 34 a b) w):=by
 have e1:zE m x 34 a b=[(4,0)]:=by simp[zE]
 have e2:zB m x 34 a b=[(3,a)]:=by simp[zB]
 rw[e1,e2];clear e1 e2;obtain⟨hw,hp⟩:=jY h m 34 a b w;have HW:=zH hw;have HP:=zH hp;clear hw hp;go_enter Tryz.func32,Tryz.ntmps32;go_upto_region 3 with fail
 change Code.wp _ _ _ _ (ql h m 34 a b w);generalize ql h m 34 a b w=w1 at*
 have o0:=HP.out.ins 0 _ rfl;have hz:=HP.out.size;have t30:=HP.out.t3 0 _ rfl;have t31:=HP.out.t3 1 _ rfl;have t40:=HP.out.t4 0 _ rfl;have t41:=HP.out.t4 1 _ rfl;exact q15
end Go.Proofs.YtdbfllajopcccaaGreat
