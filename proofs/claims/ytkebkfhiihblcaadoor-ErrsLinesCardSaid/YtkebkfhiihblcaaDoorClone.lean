/- strings.Clone: the same bytes. -/
import Derived.Test.YtkebkfhiihblcaaDoorAid
import Derived.Test.YtkebkfhiihblcaaDoorChecked
import Derived.Test.YtkebkfhiihblcaaDoorShelf
namespace Go.Proofs.YtkebkfhiihblcaaDoor
open Go.RowKit

theorem Clone_any (l : List UInt8) (w : World) (hl : l.length ≤ 100000000) :
    Calls Tryd.prog 14 #[.string ⟨l.toArray⟩] w fun e w' => e = .returned (.string ⟨l.toArray⟩) ∧ Below w.heap.size w w' := by
  go_enter Tryd.func14, Tryd.ntmps14
  go_wp2_with fail
  refine (Tryd.stringslite_Clone _ _ (by simp [ByteArray.size]; omega)).mono ?_
  rintro e w' ⟨rfl, hB⟩
  go_wp2
  go_ret
  exact ⟨rfl, hB⟩
end Go.Proofs.YtkebkfhiihblcaaDoor
