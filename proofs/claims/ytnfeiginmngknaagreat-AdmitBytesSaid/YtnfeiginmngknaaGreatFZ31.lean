import Derived.Test.YtnfeiginmngknaaGreatFZ30
namespace Go.Proofs.YtnfeiginmngknaaGreat
set_option maxRecDepth 100000
set_option linter.unusedVariables false
set_option linter.unusedSimpArgs false
open Go.ChangeShapes Go.WideShapes Go.ChangeAt Go.RowKit
theorem qbh(m:za)(f pc:Int)(st:List (Int×Int))(A:Option Addr)(cap:Nat)(h:zh)(w:World)(H:zr w w.heap.size h m)(hm:zP m)(hst:zd zf 2 w w.heap.size A cap st)(hs:st.length<=4000):
  Calls Tryz.prog 54 #[zv h m,.int .i64 f,.int .i64 pc,.slice A st.length cap] w (ik (zI m f pc st) w):=by
 by_cases f0:f<0
 ·exact q6m m f pc st A cap h w H f0
 by_cases f1:(m.methods.length:Int)<=f
 ·exact q6l m f pc st A cap h w H (by omega) f1
 by_cases p0:pc<0
 ·exact q6k m f pc st A cap h w H (by omega) (by omega) p0
 obtain⟨F,rfl⟩:=Xj (show 0<=f by omega);obtain⟨P,rfl⟩:=Xj (show 0<=pc by omega);have hF:F<m.methods.length:=by omega
 obtain⟨x,hx⟩:∃x,m.methods[F]? =some x:=⟨_,Xc hF⟩
 by_cases p1:(x.code.length:Int)<=P
 ·exact q6j m x F P st A cap h w H hx (by omega) p1
 have hP:P<x.code.length:=by omega
 obtain⟨⟨op,a,b⟩,hi⟩:∃i,x.code[P]? =some i:=⟨_,Xc hP⟩
 have e:zI m (F:Int) (P:Int) st=qT m x P op a b st:=by
  unfold zI zA;rw[Xo,hx,Wo,Xb ⟨by omega,by omega,by omega,by omega⟩,Xo,hi]
 rw[e];have hxm:=hm.method (Xr hx);have him:=Xr hi;have hin:qs op a b=true:=hxm.fits.ct _ him;have hna:zK m x op a b=true:=hxm.co _ him;exact qg5 m x F P op a b st A cap h w H hm hx hin hna hi hst hs
theorem qbi(m:za)(f pc:Int)(st:List (Int×Int))(A:Option Addr)(cap:Nat)(h:zh)(w:World)(H:zr w w.heap.size h m)(hm:zP m)(hst:zd zf 2 w w.heap.size A cap st)(hs:st.length<=4000):
  Calls Tryz.prog 54 #[zv h m,.int .i64 f,.int .i64 pc,.slice A st.length cap] w (L9 (zI m f pc st) w):=(qbh m f pc st A cap h w H hm hst hs).mono fun _ _ q=>q.is
