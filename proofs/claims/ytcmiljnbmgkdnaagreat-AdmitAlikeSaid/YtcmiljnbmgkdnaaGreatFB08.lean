import Derived.Test.YtcmiljnbmgkdnaaGreatFB02
namespace Go.Proofs.YtcmiljnbmgkdnaaGreat
set_option maxRecDepth 100000
set_option linter.unusedVariables false
set_option linter.unusedSimpArgs false
open Go.ChangeShapes Go.WideShapes Go.ChangeAt Go.RowKit
theorem qhb(n:Int)(h0: -2147483648≤n)(h1:n≤2147483647)(w:World):Calls Tryz.prog 40 #[.int .i32 n] w (q04 (zy (zig n).toNat) w):=by
 by_cases hn:n<0
 ·have Z:=zH (show zig n= -2*n - 1 by unfold zig;rw[Xb hn]);go_enter Tryz.func40,Tryz.ntmps40;go_wp2_with(go_at_call 37;(with_reducible refine(vq _ (by omega) _).mono ?_);rintro e w' ⟨v,rfl,ho,hb⟩)
  go_ret;rw[Z.out];exact⟨v,rfl,ho,hb⟩
 ·have Z:=zH (show zig n=2*n by unfold zig;rw[Xa hn]);go_enter Tryz.func40,Tryz.ntmps40;go_wp2_with(go_at_call 37;(with_reducible refine(vq _ (by omega) _).mono ?_);rintro e w' ⟨v,rfl,ho,hb⟩)
  go_ret;rw[Z.out];exact⟨v,rfl,ho,hb⟩
end Go.Proofs.YtcmiljnbmgkdnaaGreat
