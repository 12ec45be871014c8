/- Walks: the document's Put and Take of plain paths. -/
import Derived.Test.YtakaoplfkjejfaaQWalkB09
import Derived.Test.YtakaoplfkjejfaaQ
import Derived.Test.YtakaoplfkjejfaaQWalkK05
namespace Go.Proofs.Ytakaoplfkjejfaa
open Go.RowKit

theorem nd_set5 (i k ln : Int) (d : List UInt8) (p : Int) (v u : Value) (n m : List Ent) : (ndC ⟨i, k, ln, d, p, v, n⟩).setIfInBounds 5 u = ndC ⟨i, k, ln, d, p, u, m⟩ := rfl

end Go.Proofs.Ytakaoplfkjejfaa
