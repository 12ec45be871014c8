import Derived.Test.YtoejjdebfjepaaaGreatQMWalkB05
import Derived.Test.YtoejjdebfjepaaaGreatQMWalkK05
import Derived.Test.YtoejjdebfjepaaaGreatQWalkE10
import Derived.Test.YtoejjdebfjepaaaGreatQMWalkD07
import Derived.Test.YtoejjdebfjepaaaGreatQMWalkB03
import Derived.Deep.RegionWith
set_option linter.unusedVariables false
set_option linter.unusedSimpArgs false
/- Walks: the document's New. -/
set_option linter.unusedVariables false
set_option linter.unusedSimpArgs false
namespace Go.Proofs.YtoejjdebfjepaaaGreat
open Go.RowKit

end Go.Proofs.YtoejjdebfjepaaaGreat
