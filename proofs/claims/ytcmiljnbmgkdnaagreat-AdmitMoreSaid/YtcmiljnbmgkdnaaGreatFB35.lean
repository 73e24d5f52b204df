import Derived.Test.YtcmiljnbmgkdnaaGreatFB31
namespace Go.Proofs.YtcmiljnbmgkdnaaGreat
set_option maxRecDepth 100000
set_option linter.unusedVariables false
set_option linter.unusedSimpArgs false
open Go.ChangeShapes Go.WideShapes Go.ChangeAt Go.RowKit
theorem jy.now{m:za}{w w':World}{A:Option Addr}{c:Nat}{l:List (List zo)}(h:jy m w A c l)(hb:Below w.heap.size w w'):jy m w' A c l:=⟨kF RowAt.keeps h.1 hb,h.2⟩
theorem jy.z4{m:za}{w:World}{A:Option Addr}{c:Nat}{l:List (List zo)}(h:jy m w A c l):kW 4000 l:=fun S hS=>by
 obtain⟨h1,h2⟩:=h.2.1 S hS;exact⟨by omega,fun s hs=>by have:=h2 s hs;omega⟩
end Go.Proofs.YtcmiljnbmgkdnaaGreat
