import Derived.Test.YtoejjdebfjepaaaGreatQMWalkD07
import Derived.Test.YtoejjdebfjepaaaGreatQMWalkB03
import Derived.Deep.RegionWith
set_option linter.unusedVariables false
set_option linter.unusedSimpArgs false
/- Walks: the document's Name. -/
set_option linter.unusedVariables false
set_option linter.unusedSimpArgs false
namespace Go.Proofs.YtoejjdebfjepaaaGreat
open Go.RowKit

end Go.Proofs.YtoejjdebfjepaaaGreat
