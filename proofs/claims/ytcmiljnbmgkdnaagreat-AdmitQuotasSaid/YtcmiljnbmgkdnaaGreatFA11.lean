import Derived.Test.YtcmiljnbmgkdnaaGreatFA04
namespace Go.Proofs.YtcmiljnbmgkdnaaGreat
set_option maxRecDepth 100000
set_option linter.unusedVariables false
set_option linter.unusedSimpArgs false
open Go.ChangeShapes Go.WideShapes Go.ChangeAt Go.RowKit
theorem q3n{P:Prop}(h:P:=by
 go_wp2_with fail
 go_region
 all_goals
  go_wp2_with fail
  go_ret2
  refine⟨_,_,_,_,rfl,?_,?_,?_⟩
  ·exact ja
  ·exact jV (by simp;omega) (by go_simp) (by go_simp)
  ·exact HW.out.trans (by repeat(first|exact zb _ _|refine Below.alloc ?_ (by first|omega|(simp;omega)) _|refine Below.drew ?_))):P:=h
theorem rule_1(m:za)(x:zf)(f:Nat)(a b:Int)(h:zg)(w:World):
  Calls Tryz.prog 101 #[zk h m,.int .i64 f,zz 1 a b] w (jB (zB m x 1 a b) (zy m x 1 a b) w):=by
 have e1:zB m x 1 a b=[]:=by simp[zB]
 have e2:zy m x 1 a b=[(1,0)]:=by simp[zy]
 rw[e1,e2];clear e1 e2;obtain⟨hw,hp⟩:=jI h m 1 a b w;have HW:=zH hw;have HP:=zH hp;clear hw hp;go_enter Tryz.func101,Tryz.ntmps101;go_upto_region 3 with fail
 change Code.wp _ _ _ _ (qc h m 1 a b w);generalize qc h m 1 a b w=w1 at*
 have o0:=HP.out.ins 0 _ rfl;have hz:=HP.out.size;have t10:=HP.out.t1 0 _ rfl;have t11:=HP.out.t1 1 _ rfl;exact q3n
theorem rule_2(m:za)(x:zf)(f:Nat)(a b:Int)(h:zg)(w:World):
  Calls Tryz.prog 101 #[zk h m,.int .i64 f,zz 2 a b] w (jB (zB m x 2 a b) (zy m x 2 a b) w):=by
 have e1:zB m x 2 a b=[]:=by simp[zB]
 have e2:zy m x 2 a b=[(4,0)]:=by simp[zy]
 rw[e1,e2];clear e1 e2;obtain⟨hw,hp⟩:=jI h m 2 a b w;have HW:=zH hw;have HP:=zH hp;clear hw hp;go_enter Tryz.func101,Tryz.ntmps101;go_upto_region 3 with fail
 change Code.wp _ _ _ _ (qc h m 2 a b w);generalize qc h m 2 a b w=w1 at*
 have o0:=HP.out.ins 0 _ rfl;have hz:=HP.out.size;have t40:=HP.out.t4 0 _ rfl;have t41:=HP.out.t4 1 _ rfl;exact q3n
theorem rule_5(m:za)(x:zf)(f:Nat)(a b:Int)(h:zg)(w:World):
  Calls Tryz.prog 101 #[zk h m,.int .i64 f,zz 5 a b] w (jB (zB m x 5 a b) (zy m x 5 a b) w):=by
 have e1:zB m x 5 a b=[(0,0)]:=by simp[zB]
 have e2:zy m x 5 a b=[]:=by simp[zy]
 rw[e1,e2];clear e1 e2;obtain⟨hw,hp⟩:=jI h m 5 a b w;have HW:=zH hw;have HP:=zH hp;clear hw hp;go_enter Tryz.func101,Tryz.ntmps101;go_upto_region 3 with fail
 change Code.wp _ _ _ _ (qc h m 5 a b w);generalize qc h m 5 a b w=w1 at*
 have o0:=HP.out.ins 0 _ rfl;have hz:=HP.out.size;have t00:=HP.out.t0 0 _ rfl;have t01:=HP.out.t0 1 _ rfl;go_wp2_with fail
 go_ret2
 refine⟨_,_,_,_,rfl,?_,?_,?_⟩
 ·exact jV (by simp;omega) (by go_simp) (by go_simp)
 ·exact ja
 ·exact HW.out.trans (by repeat(first|exact zb _ _|refine Below.alloc ?_ (by first|omega|(simp;omega)) _|refine Below.drew ?_))
theorem q7y{P:Prop}(h:P:=by
 have o0:=HP.out.ins 0 _ rfl;have hz:=HP.out.size;go_wp2_with fail
 go_ret2
 refine⟨_,_,_,_,rfl,?_,?_,?_⟩
 ·exact ja
 ·exact ja
 ·exact HW.out.trans (by repeat(first|exact zb _ _|refine Below.alloc ?_ (by first|omega|(simp;omega)) _|refine Below.drew ?_))):P:=h
theorem rule_6(m:za)(x:zf)(f:Nat)(a b:Int)(h:zg)(w:World):
  Calls Tryz.prog 101 #[zk h m,.int .i64 f,zz 6 a b] w (jB (zB m x 6 a b) (zy m x 6 a b) w):=by
 have e1:zB m x 6 a b=[]:=by simp[zB]
 have e2:zy m x 6 a b=[]:=by simp[zy]
 rw[e1,e2];clear e1 e2;obtain⟨hw,hp⟩:=jI h m 6 a b w;have HW:=zH hw;have HP:=zH hp;clear hw hp;go_enter Tryz.func101,Tryz.ntmps101;go_upto_region 3 with fail
 change Code.wp _ _ _ _ (qc h m 6 a b w);generalize qc h m 6 a b w=w1 at*
 exact q7y
theorem qtz(m:za)(x:zf)(f:Nat)(a b:Int)(h:zg)(w:World):
  Calls Tryz.prog 101 #[zk h m,.int .i64 f,zz 18 a b] w (jB (zB m x 18 a b) (zy m x 18 a b) w):=by
 have e1:zB m x 18 a b=[]:=by simp[zB]
 have e2:zy m x 18 a b=[]:=by simp[zy]
 rw[e1,e2];clear e1 e2;obtain⟨hw,hp⟩:=jI h m 18 a b w;have HW:=zH hw;have HP:=zH hp;clear hw hp;go_enter Tryz.func101,Tryz.ntmps101;go_upto_region 3 with fail
 change Code.wp _ _ _ _ (qc h m 18 a b w);generalize qc h m 18 a b w=w1 at*
 exact q7y
theorem qty(m:za)(x:zf)(f:Nat)(a b:Int)(h:zg)(w:World):
  Calls Tryz.prog 101 #[zk h m,.int .i64 f,zz 19 a b] w (jB (zB m x 19 a b) (zy m x 19 a b) w):=by
 have e1:zB m x 19 a b=[(1,0)]:=by simp[zB]
 have e2:zy m x 19 a b=[]:=by simp[zy]
 rw[e1,e2];clear e1 e2;obtain⟨hw,hp⟩:=jI h m 19 a b w;have HW:=zH hw;have HP:=zH hp;clear hw hp;go_enter Tryz.func101,Tryz.ntmps101;go_upto_region 3 with fail
 change Code.wp _ _ _ _ (qc h m 19 a b w);generalize qc h m 19 a b w=w1 at*
 have o0:=HP.out.ins 0 _ rfl;have hz:=HP.out.size;have t10:=HP.out.t1 0 _ rfl;have t11:=HP.out.t1 1 _ rfl;go_wp2_with fail
 go_ret2
 refine⟨_,_,_,_,rfl,?_,?_,?_⟩
 ·exact jV (by simp;omega) (by go_simp) (by go_simp)
 ·exact ja
 ·exact HW.out.trans (by repeat(first|exact zb _ _|refine Below.alloc ?_ (by first|omega|(simp;omega)) _|refine Below.drew ?_))
theorem q1e{P:Prop}(h:P:=by
 go_wp2_with fail
 go_region
 all_goals
  go_wp2_with fail
  go_ret2
  refine⟨_,_,_,_,rfl,?_,?_,?_⟩
  ·exact jV (by simp;omega) (by go_simp) (by go_simp)
  ·exact jV (by simp;omega) (by go_simp) (by go_simp)
  ·exact HW.out.trans (by repeat(first|exact zb _ _|refine Below.alloc ?_ (by first|omega|(simp;omega)) _|refine Below.drew ?_))):P:=h
theorem qtx(m:za)(x:zf)(f:Nat)(a b:Int)(h:zg)(w:World):
  Calls Tryz.prog 101 #[zk h m,.int .i64 f,zz 20 a b] w (jB (zB m x 20 a b) (zy m x 20 a b) w):=by
 have e1:zB m x 20 a b=[(4,0)]:=by simp[zB]
 have e2:zy m x 20 a b=[(1,0)]:=by simp[zy]
 rw[e1,e2];clear e1 e2;obtain⟨hw,hp⟩:=jI h m 20 a b w;have HW:=zH hw;have HP:=zH hp;clear hw hp;go_enter Tryz.func101,Tryz.ntmps101;go_upto_region 3 with fail
 change Code.wp _ _ _ _ (qc h m 20 a b w);generalize qc h m 20 a b w=w1 at*
 have o0:=HP.out.ins 0 _ rfl;have hz:=HP.out.size;have t10:=HP.out.t1 0 _ rfl;have t11:=HP.out.t1 1 _ rfl;have t40:=HP.out.t4 0 _ rfl;have t41:=HP.out.t4 1 _ rfl;exact q1e
theorem q7z{P:Prop}(h:P:=by
 go_wp2_with fail
 go_region
 all_goals
  go_wp2_with fail
  go_ret2
  refine⟨_,_,_,_,rfl,?_,?_,?_⟩
  ·exact q2s (by simp;omega) (by go_simp) (by go_simp) (by go_simp) (by go_simp)
  ·exact jV (by simp;omega) (by go_simp) (by go_simp)
  ·exact HW.out.trans (by repeat(first|exact zb _ _|refine Below.alloc ?_ (by first|omega|(simp;omega)) _|refine Below.drew ?_))):P:=h
theorem qtw(m:za)(x:zf)(f:Nat)(a b:Int)(h:zg)(w:World):
  Calls Tryz.prog 101 #[zk h m,.int .i64 f,zz 21 a b] w (jB (zB m x 21 a b) (zy m x 21 a b) w):=by
 have e1:zB m x 21 a b=[(4,0),(4,0)]:=by simp[zB]
 have e2:zy m x 21 a b=[(1,0)]:=by simp[zy]
 rw[e1,e2];clear e1 e2;obtain⟨hw,hp⟩:=jI h m 21 a b w;have HW:=zH hw;have HP:=zH hp;clear hw hp;go_enter Tryz.func101,Tryz.ntmps101;go_upto_region 3 with fail
 change Code.wp _ _ _ _ (qc h m 21 a b w);generalize qc h m 21 a b w=w1 at*
 have o0:=HP.out.ins 0 _ rfl;have hz:=HP.out.size;have t10:=HP.out.t1 0 _ rfl;have t11:=HP.out.t1 1 _ rfl;have t40:=HP.out.t4 0 _ rfl;have t41:=HP.out.t4 1 _ rfl;exact q7z
theorem qtv(m:za)(x:zf)(f:Nat)(a b:Int)(h:zg)(w:World):
  Calls Tryz.prog 101 #[zk h m,.int .i64 f,zz 22 a b] w (jB (zB m x 22 a b) (zy m x 22 a b) w):=by
 have e1:zB m x 22 a b=[]:=by simp[zB]
 have e2:zy m x 22 a b=[(3,a)]:=by simp[zy]
 rw[e1,e2];clear e1 e2;obtain⟨hw,hp⟩:=jI h m 22 a b w;have HW:=zH hw;have HP:=zH hp;clear hw hp;go_enter Tryz.func101,Tryz.ntmps101;go_upto_region 3 with fail
 change Code.wp _ _ _ _ (qc h m 22 a b w);generalize qc h m 22 a b w=w1 at*
 have o0:=HP.out.ins 0 _ rfl;have hz:=HP.out.size;have t30:=HP.out.t3 0 _ rfl;have t31:=HP.out.t3 1 _ rfl;exact q3n
theorem qtu(m:za)(x:zf)(f:Nat)(a b:Int)(h:zg)(w:World):
  Calls Tryz.prog 101 #[zk h m,.int .i64 f,zz 23 a b] w (jB (zB m x 23 a b) (zy m x 23 a b) w):=by
 have e1:zB m x 23 a b=[(1,0)]:=by simp[zB]
 have e2:zy m x 23 a b=[(2,0)]:=by simp[zy]
 rw[e1,e2];clear e1 e2;obtain⟨hw,hp⟩:=jI h m 23 a b w;have HW:=zH hw;have HP:=zH hp;clear hw hp;go_enter Tryz.func101,Tryz.ntmps101;go_upto_region 3 with fail
 change Code.wp _ _ _ _ (qc h m 23 a b w);generalize qc h m 23 a b w=w1 at*
 have o0:=HP.out.ins 0 _ rfl;have hz:=HP.out.size;have t10:=HP.out.t1 0 _ rfl;have t11:=HP.out.t1 1 _ rfl;have t20:=HP.out.t2 0 _ rfl;have t21:=HP.out.t2 1 _ rfl;exact q1e
theorem qtt(m:za)(x:zf)(f:Nat)(a b:Int)(h:zg)(w:World):
  Calls Tryz.prog 101 #[zk h m,.int .i64 f,zz 24 a b] w (jB (zB m x 24 a b) (zy m x 24 a b) w):=by
 have e1:zB m x 24 a b=[(2,0),(1,0)]:=by simp[zB]
 have e2:zy m x 24 a b=[(1,0)]:=by simp[zy]
 rw[e1,e2];clear e1 e2;obtain⟨hw,hp⟩:=jI h m 24 a b w;have HW:=zH hw;have HP:=zH hp;clear hw hp;go_enter Tryz.func101,Tryz.ntmps101;go_upto_region 3 with fail
 change Code.wp _ _ _ _ (qc h m 24 a b w);generalize qc h m 24 a b w=w1 at*
 have o0:=HP.out.ins 0 _ rfl;have hz:=HP.out.size;have t10:=HP.out.t1 0 _ rfl;have t11:=HP.out.t1 1 _ rfl;have t20:=HP.out.t2 0 _ rfl;have t21:=HP.out.t2 1 _ rfl;exact q7z
theorem qts(m:za)(x:zf)(f:Nat)(a b:Int)(h:zg)(w:World):
  Calls Tryz.prog 101 #[zk h m,.int .i64 f,zz 25 a b] w (jB (zB m x 25 a b) (zy m x 25 a b) w):=by
 have e1:zB m x 25 a b=[(2,0),(1,0),(1,0)]:=by simp[zB]
 have e2:zy m x 25 a b=[]:=by simp[zy]
 rw[e1,e2];clear e1 e2;obtain⟨hw,hp⟩:=jI h m 25 a b w;have HW:=zH hw;have HP:=zH hp;clear hw hp;go_enter Tryz.func101,Tryz.ntmps101;go_upto_region 3 with fail
 change Code.wp _ _ _ _ (qc h m 25 a b w);generalize qc h m 25 a b w=w1 at*
 have o0:=HP.out.ins 0 _ rfl;have hz:=HP.out.size;have t10:=HP.out.t1 0 _ rfl;have t11:=HP.out.t1 1 _ rfl;have t20:=HP.out.t2 0 _ rfl;have t21:=HP.out.t2 1 _ rfl;go_wp2_with fail
 go_ret2
 refine⟨_,_,_,_,rfl,?_,?_,?_⟩
 ·exact new_t3 (by simp;omega) (by go_simp) (by go_simp) (by go_simp) (by go_simp) (by go_simp) (by go_simp)
 ·exact ja
 ·exact HW.out.trans (by repeat(first|exact zb _ _|refine Below.alloc ?_ (by first|omega|(simp;omega)) _|refine Below.drew ?_))
theorem qtr(m:za)(x:zf)(f:Nat)(a b:Int)(h:zg)(w:World):
  Calls Tryz.prog 101 #[zk h m,.int .i64 f,zz 26 a b] w (jB (zB m x 26 a b) (zy m x 26 a b) w):=by
 have e1:zB m x 26 a b=[(2,0)]:=by simp[zB]
 have e2:zy m x 26 a b=[(1,0)]:=by simp[zy]
 rw[e1,e2];clear e1 e2;obtain⟨hw,hp⟩:=jI h m 26 a b w;have HW:=zH hw;have HP:=zH hp;clear hw hp;go_enter Tryz.func101,Tryz.ntmps101;go_upto_region 3 with fail
 change Code.wp _ _ _ _ (qc h m 26 a b w);generalize qc h m 26 a b w=w1 at*
 have o0:=HP.out.ins 0 _ rfl;have hz:=HP.out.size;have t10:=HP.out.t1 0 _ rfl;have t11:=HP.out.t1 1 _ rfl;have t20:=HP.out.t2 0 _ rfl;have t21:=HP.out.t2 1 _ rfl;exact q1e
theorem qtj(m:za)(x:zf)(f:Nat)(a b:Int)(h:zg)(w:World):
  Calls Tryz.prog 101 #[zk h m,.int .i64 f,zz 34 a b] w (jB (zB m x 34 a b) (zy m x 34 a b) w):=by
 have e1:zB m x 34 a b=[(4,0)]:=by simp[zB]
 have e2:zy m x 34 a b=[(3,a)]:=by simp[zy]
 rw[e1,e2];clear e1 e2;obtain⟨hw,hp⟩:=jI h m 34 a b w;have HW:=zH hw;have HP:=zH hp;clear hw hp;go_enter Tryz.func101,Tryz.ntmps101;go_upto_region 3 with fail
 change Code.wp _ _ _ _ (qc h m 34 a b w);generalize qc h m 34 a b w=w1 at*
 have o0:=HP.out.ins 0 _ rfl;have hz:=HP.out.size;have t30:=HP.out.t3 0 _ rfl;have t31:=HP.out.t3 1 _ rfl;have t40:=HP.out.t4 0 _ rfl;have t41:=HP.out.t4 1 _ rfl;exact q1e
end Go.Proofs.YtcmiljnbmgkdnaaGreat
