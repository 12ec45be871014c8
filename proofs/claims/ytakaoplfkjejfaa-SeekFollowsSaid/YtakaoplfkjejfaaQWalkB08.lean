/- Walks: the document's paths of an inode, and whether what was seen is the same. -/
import Derived.Test.YtakaoplfkjejfaaQWalkA08
import Derived.Test.YtakaoplfkjejfaaQ
import Derived.BigQuiet
import Derived.Laws.StructEq
namespace Go.Proofs.Ytakaoplfkjejfaa
open Go.RowKit

theorem infoStr8 : (Try.prog.info? 9).map (fun i => (i.zero, i.size, i.bytes)) = some (some (.string ⟨#[]⟩), 1, 16) := by kernel_rfl

end Go.Proofs.Ytakaoplfkjejfaa
