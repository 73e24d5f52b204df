import Derived.Test.YtdbfllajopcccaaGreatFA08
import Derived.Test.YtdbfllajopcccaaGreatFA02
namespace Go.Proofs.YtdbfllajopcccaaGreat
set_option maxRecDepth 100000
set_option linter.unusedVariables false
set_option linter.unusedSimpArgs false
open Go.ChangeShapes Go.WideShapes Go.ChangeAt Go.RowKit
theorem Ja{α:Type}{At:qI α}(hK:vF At){k:Nat}{w w':World}{A:Option Addr}{c:Nat}{l:List α}(h:zd At k w w.heap.size A c l)(hb:Below w.heap.size w w'):zd At k w' w'.heap.size A c l:=
 (h.below_to hK hb (zn _)).keep' hK hb.size (fun _ _=>rfl)
def VC(a b:Inq):Bool:=decide (a.2=b.2)&& decide (a.1=b.1)
theorem qpx(w:World)(x y z u:Value):zT ((w.alloc (.cells #[x,y] 49)).alloc (.cells #[z,u] 49)) w.heap.size [x,y]∧zT ((w.alloc (.cells #[x,y] 49)).alloc (.cells #[z,u] 49)) (w.heap.size+1) [z,u]∧
  Below w.heap.size w ((w.alloc (.cells #[x,y] 49)).alloc (.cells #[z,u] 49)):=by
 have z1:(w.alloc (.cells #[x,y] 49)).heap.size=w.heap.size+1:=by simp
 have b2:Below (w.heap.size+1) (w.alloc (.cells #[x,y] 49)) ((w.alloc (.cells #[x,y] 49)).alloc (.cells #[z,u] 49)):=(zb _ _).alloc (by omega) _;have h2:=qd (w.alloc (.cells #[x,y] 49)) [z,u] 49;rw[z1]at h2;exact⟨(qd w [x,y] _).keep b2 (by omega),h2,((zb _ _).alloc (zn _) _).trans (b2.mono (by omega))⟩
theorem qf1(L M:List Int)(x y:Int)(A B:Option Addr)(c d:Nat)(w:World)(hl:zd zo 1 w w.heap.size A c L)(hm:zd zo 1 w w.heap.size B d M):
  Calls Tryz.prog 17 #[.agg #[.slice A L.length c,.int .i64 x],.agg #[.slice B M.length d,.int .i64 y]] w fun e w'=>e= .returned (.bool (VC (L,x) (M,y)))∧Below w.heap.size w w':=by
 obtain⟨c1,c2,hb⟩:=qpx w (.slice A L.length c) (.int .i64 x) (.slice B M.length d) (.int .i64 y);have HC1:=zH c1;have HC2:=zH c2;have HW:=zH hb;have H1:=zH (Ja zo.keeps hl hb);have H2:=zH (Ja zo.keeps hm hb);obtain⟨r,hr⟩:∃r,VC (L,x) (M,y)=r:=⟨_,rfl⟩
 rw[hr];have HR:=zH hr;clear c1 c2 hb hl hm hr;by_cases hxy:x=y
 ·subst hxy;have HE:Hid (decide (L=M)=r):=zH (by rw[←HR.out];unfold VC;rw[decide_eq_true rfl,Bool.true_and]);go_enter Tryz.func17,Tryz.ntmps17;go_upto_region 1 with fail
  generalize(w.alloc (.cells #[.slice A L.length c,.int .i64 x] 49)).alloc (.cells #[.slice B M.length d,.int .i64 x] 49)=w1 at*
  have d0:=HC1.out 0 _ rfl;have d1:=HC1.out 1 _ rfl;have e0:=HC2.out 0 _ rfl;have e1:=HC2.out 1 _ rfl;go_wp2_with(go_at_call 35;(with_reducible refine(q6v L M A B c d w1.heap.size w1 (zn _) H1.out H2.out).mono ?_);rintro e w2 ⟨he,hb⟩;rw[HE.out]at he;subst he;have HB2:=zH hb;clear hb)
  go_ret;exact⟨rfl,HW.out.trans (HB2.out.mono HW.out.size)⟩
 ·have HE:Hid (false=r):=zH (by rw[←HR.out];unfold VC;rw[decide_eq_false hxy,Bool.false_and]);have hne:(x==y)=false:=beq_eq_false_iff_ne.mpr hxy;go_enter Tryz.func17,Tryz.ntmps17;go_upto_region 1 with fail
  generalize(w.alloc (.cells #[.slice A L.length c,.int .i64 x] 49)).alloc (.cells #[.slice B M.length d,.int .i64 y] 49)=w1 at*
  have d0:=HC1.out 0 _ rfl;have d1:=HC1.out 1 _ rfl;have e0:=HC2.out 0 _ rfl;have e1:=HC2.out 1 _ rfl;go_wp2_with fail
  go_ret;exact⟨by first|rfl|(rw[←HE.out];rfl),HW.out⟩
end Go.Proofs.YtdbfllajopcccaaGreat
