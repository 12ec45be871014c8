/- Walks: the document's Name. -/
import Derived.Test.YtkdmfeikikmiiaaGreatVMWalkD07
import Derived.Test.YtkdmfeikikmiiaaGreatVMWalkB03
import Derived.Deep.RegionWith
set_option linter.unusedVariables false
set_option linter.unusedSimpArgs false
