/- Walks: the document's way on, one name on. -/
import Derived.Test.YtakaoplfkjejfaaQWalkC10
namespace Go.Proofs.Ytakaoplfkjejfaa
open Go.RowKit

end Go.Proofs.Ytakaoplfkjejfaa
