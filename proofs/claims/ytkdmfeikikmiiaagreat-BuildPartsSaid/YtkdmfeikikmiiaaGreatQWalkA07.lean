/- Walks: the document's rules 1, 2 and 3. -/
import Derived.Test.YtkdmfeikikmiiaaGreatQWalkI05
import Derived.Test.YtkdmfeikikmiiaaGreatQMWalkF03
import Derived.Test.YtkdmfeikikmiiaaGreatQMPure09
import Derived.StillTailTactics
set_option linter.unusedVariables false
set_option linter.unusedSimpArgs false
