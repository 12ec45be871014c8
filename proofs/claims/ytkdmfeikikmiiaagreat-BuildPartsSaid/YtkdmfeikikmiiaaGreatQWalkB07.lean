/- Walks: the document's rules 2 and 3. -/
import Derived.Test.YtkdmfeikikmiiaaGreatQWalkA07
import Derived.Deep.RegionHeld3
set_option linter.unusedVariables false
set_option linter.unusedSimpArgs false
