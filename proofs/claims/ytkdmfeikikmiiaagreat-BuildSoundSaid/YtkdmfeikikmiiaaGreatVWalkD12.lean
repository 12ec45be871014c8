/- Walks: the document's Link. -/
import Derived.Test.YtkdmfeikikmiiaaGreatVMWalkD11
import Derived.Test.YtkdmfeikikmiiaaGreatVWalkB12
set_option linter.unusedVariables false
set_option linter.unusedSimpArgs false
