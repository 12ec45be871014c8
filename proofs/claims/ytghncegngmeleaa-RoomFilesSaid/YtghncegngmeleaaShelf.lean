/- No contract of the library is wanted by this translation. -/
import Derived.Test.YtghncegngmeleaaChecked
namespace Go.Proofs.Ytghncegngmeleaa
end Go.Proofs.Ytghncegngmeleaa
