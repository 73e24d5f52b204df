import Derived.Test.YtcmiljnbmgkdnaaGreatFB44
import Derived.Test.YtcmiljnbmgkdnaaGreatFB43
namespace Go.Proofs.YtcmiljnbmgkdnaaGreat
set_option maxRecDepth 100000
set_option linter.unusedVariables false
set_option linter.unusedSimpArgs false
open Go.ChangeShapes Go.WideShapes Go.ChangeAt Go.RowKit
theorem qr8{w:World}{A:Option Addr}{c n:Nat}{L:List Int}(H:Hid (Vh w A c L))(HN:Hid (L.length=n)):Calls Tryz.prog 17 #[.slice A n c] w (qch L w):=by
 obtain rfl:=HN.out;exact qmi L A c w H.out.len H.out.le H.out.cap H.out.rng H.out.none H.out.lie
def EncRow(L:List Int)(w:World)(e:Ending)(w':World):Prop:=
 ∃g c,e= .returned (.slice (some ⟨g,0,none⟩) L.length c)∧w'.ownsRow w.heap.size 5 1 (.slice (some ⟨g,0,none⟩) L.length c) L.length (L.map (Value.int .u8))∧Vh w' (some ⟨g,0,none⟩) c L∧Below w.heap.size w w'
theorem q8k{w:World}{g:Nat}{h:zi}{m:za}{L:List Int}(HM:Hid (Boxed w g h m))(HF:Hid (zK m=true))(HE:Hid (va m=L)):
  Calls Tryz.prog 16 #[zp h m] w (EncRow L w):=by
 have hp:0<L.length:=by rw[←HE.out];have:=qlg m;omega
 have hlen:L.length≤30000:=by rw[←HE.out];exact qlh ⟨HF.out,q7l HM.out.img⟩
 refine(qhe m h w.heap.size w HF.out (zn _) HM.out.img).mono ?_;have hrg:∀b ∈L,0≤b∧b≤255:=by rw[←HE.out];exact qgp m
 rw[HE.out];rintro e w' ⟨v,rfl,ho,hb⟩;obtain⟨g,c,rfl,g1,g2,_,_,hL⟩:=q5i ho hp;exact⟨g,c,rfl,ho,⟨by omega,g1,g2,hrg,(fun e=>by cases e),hL⟩,hb⟩
theorem qqo{m:za}{L:List Int}{x0:za}{ed:Int}(hm:ZT m)(hE:va m=L)(hl:¬8192<L.length)(hd:Yq L x0 ed)(hx:∀i ∈x0.ints,OkL i):ed=0∧x0=m:=by
 subst hE;exact qv9 hm hl hx hd
end Go.Proofs.YtcmiljnbmgkdnaaGreat
