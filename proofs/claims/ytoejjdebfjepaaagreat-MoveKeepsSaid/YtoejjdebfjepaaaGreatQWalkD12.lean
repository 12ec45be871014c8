import Derived.Test.YtoejjdebfjepaaaGreatQMWalkD11
import Derived.Test.YtoejjdebfjepaaaGreatQWalkB12
set_option linter.unusedVariables false
set_option linter.unusedSimpArgs false
/- Walks: the document's Link. -/
set_option linter.unusedVariables false
set_option linter.unusedSimpArgs false
namespace Go.Proofs.YtoejjdebfjepaaaGreat
open Go.RowKit

end Go.Proofs.YtoejjdebfjepaaaGreat
