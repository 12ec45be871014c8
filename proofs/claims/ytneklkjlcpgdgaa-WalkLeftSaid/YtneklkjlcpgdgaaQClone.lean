/- strings.Clone: the same bytes. -/
import Derived.Test.YtneklkjlcpgdgaaQ
import Derived.Test.YtneklkjlcpgdgaaChecked
import Derived.Test.YtneklkjlcpgdgaaQShelf
namespace Go.Proofs.Ytneklkjlcpgdgaa
open Go.RowKit

theorem Clone_any (l : List UInt8) (w : World) (hl : l.length ≤ 100000000) :
    Calls Try.prog 54 #[.string ⟨l.toArray⟩] w fun e w' => e = .returned (.string ⟨l.toArray⟩) ∧ Below w.heap.size w w' := by
  go_enter Try.func54, Try.ntmps54
  go_wp2_with fail
  refine (Try.stringslite_Clone _ _ (by simp [ByteArray.size]; omega)).mono ?_
  rintro e w' ⟨rfl, hB⟩
  go_wp2
  go_ret
  exact ⟨rfl, hB⟩
end Go.Proofs.Ytneklkjlcpgdgaa
