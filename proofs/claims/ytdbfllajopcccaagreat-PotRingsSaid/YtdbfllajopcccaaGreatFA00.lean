import Derived.Below
import Derived.Lib.Hide
namespace Go.Proofs.YtdbfllajopcccaaGreat
theorem zH {p:Prop}(h:p):Go.RowKit.Hid p:=h
theorem zn (n:Nat):n≤n:=Nat.le_refl n
theorem zb (B:Nat)(w:World):Go.RowKit.Below B w w:=Go.RowKit.Below.refl B w
end Go.Proofs.YtdbfllajopcccaaGreat
