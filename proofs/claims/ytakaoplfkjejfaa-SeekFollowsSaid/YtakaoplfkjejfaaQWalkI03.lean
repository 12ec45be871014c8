/- Walks: the document's Long, May, Under, Plain, Read. -/
import Derived.Test.YtakaoplfkjejfaaQWalkH03
namespace Go.Proofs.Ytakaoplfkjejfaa
open Go.RowKit

end Go.Proofs.Ytakaoplfkjejfaa
