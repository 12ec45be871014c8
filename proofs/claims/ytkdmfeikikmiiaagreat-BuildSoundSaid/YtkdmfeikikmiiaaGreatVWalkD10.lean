/- Walks: the document's way on, one name on. -/
import Derived.Test.YtkdmfeikikmiiaaGreatVMWalkD07
set_option linter.unusedVariables false
set_option linter.unusedSimpArgs false
