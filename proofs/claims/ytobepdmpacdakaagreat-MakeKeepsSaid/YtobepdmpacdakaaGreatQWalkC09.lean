/- Walks: the document's Put and Take of plain paths. -/
import Derived.Test.YtobepdmpacdakaaGreatQWalkB09
import Derived.Test.YtobepdmpacdakaaGreatQWalkG04
import Derived.Test.YtobepdmpacdakaaGreatQWalkK05
set_option linter.unusedVariables false
set_option linter.unusedSimpArgs false
namespace Go.Proofs.YtobepdmpacdakaaGreat
open Go.RowKit

theorem refWithoutS_any (l : List Ent) (n : List UInt8) (v : Value) (w : World) (hv : Ents w v l) (hs : sortP l) (hl : l.length ≤ 1000000) :
    Calls Tryz.prog 71 #[v, .string ⟨n.toArray⟩] w (OwnEnts w (withoutB l n)) := by
  have := refWithout_any l n v w hv hl
  rwa [without_eq n hs] at this
theorem nd_set5 (i k ln : Int) (d : List UInt8) (p : Int) (v u : Value) (n m : List Ent) : (ndC ⟨i, k, ln, d, p, v, n⟩).setIfInBounds 5 u = ndC ⟨i, k, ln, d, p, u, m⟩ := rfl

end Go.Proofs.YtobepdmpacdakaaGreat
