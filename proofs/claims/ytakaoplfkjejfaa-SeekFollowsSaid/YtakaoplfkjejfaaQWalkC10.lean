/- Walks: the document's way on: nothing left to go; one name. -/
import Derived.Test.YtakaoplfkjejfaaQWalkB10
import Derived.Deep.RegionHeld3
import Derived.Deep.Cut
import Derived.Deep.CutRange
namespace Go.Proofs.Ytakaoplfkjejfaa
open Go.RowKit

end Go.Proofs.Ytakaoplfkjejfaa
