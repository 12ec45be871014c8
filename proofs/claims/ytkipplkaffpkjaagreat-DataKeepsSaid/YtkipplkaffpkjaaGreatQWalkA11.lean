import Derived.Test.YtkipplkaffpkjaaGreatQMWalkH04
import Derived.Test.YtkipplkaffpkjaaGreatQMWalkK05
import Derived.Test.YtkipplkaffpkjaaGreatQWalkE10
import Derived.Test.YtkipplkaffpkjaaGreatQMWalkB08
import Derived.Test.YtkipplkaffpkjaaGreatQMWalkH05
import Derived.Deep.RegionWith
set_option linter.unusedVariables false
set_option linter.unusedSimpArgs false
/- Walks: the document's New. -/
set_option linter.unusedVariables false
set_option linter.unusedSimpArgs false
namespace Go.Proofs.YtkipplkaffpkjaaGreat
open Go.RowKit

end Go.Proofs.YtkipplkaffpkjaaGreat
