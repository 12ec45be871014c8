/- Walks: the program's Put and Take of plain paths. -/
import Derived.Test.YtobepdmpacdakaaGreatQWalkP09
import Derived.Test.YtobepdmpacdakaaGreatQB
import Derived.Test.YtobepdmpacdakaaGreatQWalkE05
import Derived.Test.YtobepdmpacdakaaGreatQMade11
set_option linter.unusedVariables false
set_option linter.unusedSimpArgs false
namespace Go.Proofs.YtobepdmpacdakaaGreat
open Go.RowKit

/-- The lengths that the calls ask. -/
theorem calm_ents {l : List Nd} (h : Calm l) (i : Int) : sortP (getN l i).ents ∧ (getN l i).ents.length ≤ 1000 ∧ shortP 100000000 (getN l i).ents :=
  ⟨((rightB_iff _).1 (calm_get h i).1).2, (calm_get h i).2.1, fun e he => Nat.le_trans ((calm_get h i).2.2.2 e he) (by decide)⟩

end Go.Proofs.YtobepdmpacdakaaGreat
