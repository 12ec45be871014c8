import Derived.Test.YtoejjdebfjepaaaGreatQAwake14
import Derived.Test.YtoejjdebfjepaaaGreatQMLawBase05
import Derived.Test.YtoejjdebfjepaaaGreatQMWalkB05
set_option linter.unusedVariables false
set_option linter.unusedSimpArgs false
/- What the statements on what is renamed have in common. -/
set_option linter.unusedVariables false
set_option linter.unusedSimpArgs false
namespace Go.Proofs.YtoejjdebfjepaaaGreat
open Go.RowKit
set_option linter.unusedVariables false

theorem links_fit14 {mi mb nx : Int} {l : List Nd} (h : okB mi mb nx l = true) : ∀ i, 0 ≤ (getN l i).links ∧ (getN l i).links ≤ 1000000 := fun i => by
  have := links_few h i
  omega
theorem tab_eq14 {mi mb nx : Int} {a b : List Nd} (h : onesB a b = true) : tabB mi mb nx a mi mb nx b = true := by simp [tabB, h]
theorem short14 {l : List Nd} {base p : List UInt8} (h : shortB l base p = true) : base.length ≤ 1000 ∧ p.length ≤ 5000 := by
  unfold shortB at h
  simp only [Bool.and_eq_true, decide_eq_true_eq] at h
  exact ⟨h.1.2, h.2⟩
end Go.Proofs.YtoejjdebfjepaaaGreat
