/- What the statements on what is made have in common. -/
import Derived.Test.YtobepdmpacdakaaGreatQAwake11
import Derived.Test.YtobepdmpacdakaaGreatQLawBase05
import Derived.Test.YtobepdmpacdakaaGreatQWalkH05
import Derived.Test.YtobepdmpacdakaaGreatQB
set_option linter.unusedVariables false
set_option linter.unusedSimpArgs false
namespace Go.Proofs.YtobepdmpacdakaaGreat
open Go.ChangeShapes Go.WideShapes Go.ChangeAt Go.RowKit
open Go.ChangeMaps (open_string shut_string)
set_option linter.unusedVariables false

theorem nx_fit {mi mb nx : Int} {l : List Nd} (h : okB mi mb nx l = true) (hx : nx < 1099511627776) : -4611686018427387904 ≤ nx ∧ nx ≤ 4611686018427387904 := by
  have s := ok_sound h
  have hm := get_mem s.root
  have := s.ino _ hm.1
  omega
theorem tab_ones {mi mb nx : Int} {a b : List Nd} (h : onesB a b = true) : tabB mi mb nx a mi mb nx b = true := by simp [tabB, h]
theorem short11 {l : List Nd} {base p : List UInt8} (h : shortB l base p = true) : base.length ≤ 1000 ∧ p.length ≤ 5000 := by
  unfold shortB at h
  simp only [Bool.and_eq_true, decide_eq_true_eq] at h
  exact ⟨h.1.2, h.2⟩
end Go.Proofs.YtobepdmpacdakaaGreat
