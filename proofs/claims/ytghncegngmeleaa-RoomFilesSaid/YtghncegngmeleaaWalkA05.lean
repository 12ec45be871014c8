/- Walks: the search for a number, by halves. -/
import Derived.Test.YtghncegngmeleaaNds05
import Derived.Test.YtghncegngmeleaaChecked
import Derived.Test.YtghncegngmeleaaShelf
import Derived.Deep.LoopGhost
import Derived.Lib.Small
namespace Go.Proofs.Ytghncegngmeleaa
open Go.RowKit

theorem cmpI_lt (x y : Int) : decide (Lib.compareInt x y < 0) = decide (x < y) := by
  unfold Lib.compareInt; split
  · simp [*]
  · split <;> simp [*]
theorem cmpI_eq (x y : Int) : (Lib.compareInt x y == 0) = (x == y) := by
  unfold Lib.compareInt; split
  · have : x ≠ y := by omega
    simp [this]
  · split
    · have : x ≠ y := by omega
      simp [this]
    · have : x = y := by omega
      simp [this]

end Go.Proofs.Ytghncegngmeleaa
