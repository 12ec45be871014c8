/- Walks: the document's New. -/
import Derived.Test.YtkdmfeikikmiiaaGreatVMWalkB05
import Derived.Test.YtkdmfeikikmiiaaGreatVMWalkK05
import Derived.Test.YtkdmfeikikmiiaaGreatVWalkE10
import Derived.Test.YtkdmfeikikmiiaaGreatVMWalkD07
import Derived.Test.YtkdmfeikikmiiaaGreatVMWalkB03
import Derived.Deep.RegionWith
set_option linter.unusedVariables false
set_option linter.unusedSimpArgs false
