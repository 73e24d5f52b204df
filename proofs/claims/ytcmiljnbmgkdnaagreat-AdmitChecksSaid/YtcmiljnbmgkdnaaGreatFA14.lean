import Derived.Test.YtcmiljnbmgkdnaaGreatFA12
namespace Go.Proofs.YtcmiljnbmgkdnaaGreat
set_option maxRecDepth 100000
set_option linter.unusedVariables false
set_option linter.unusedSimpArgs false
open Go.ChangeShapes Go.WideShapes Go.ChangeAt Go.RowKit
theorem Zv.lt{α:Type}{El:ElP α}{w:World}{base e k:Nat}{v:Value}{l:List α}(h:Zv El w base e k v l):∀g,v.ownBlock=some g→g<w.heap.size:=by
 obtain⟨_,_,_,h3,_⟩:=h;exact fun g hg=>(h3.lt g hg).2
end Go.Proofs.YtcmiljnbmgkdnaaGreat
