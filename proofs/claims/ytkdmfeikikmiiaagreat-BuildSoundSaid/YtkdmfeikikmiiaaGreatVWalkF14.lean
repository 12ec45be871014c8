/- Walks: the document's Rename, in parts (printed by tools/rename14.py). -/
import Derived.Test.YtkdmfeikikmiiaaGreatVMWalkD11
import Derived.Test.YtkdmfeikikmiiaaGreatVMWalkB05
import Derived.Test.YtkdmfeikikmiiaaGreatVWalkD12
set_option linter.unusedVariables false
set_option linter.unusedSimpArgs false
