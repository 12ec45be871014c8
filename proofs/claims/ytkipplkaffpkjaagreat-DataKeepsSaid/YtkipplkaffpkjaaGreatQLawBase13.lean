import Derived.Test.YtkipplkaffpkjaaGreatQAwake13
import Derived.Test.YtkipplkaffpkjaaGreatQMWalkH05
set_option linter.unusedVariables false
set_option linter.unusedSimpArgs false
/- What the statements on what files and links hold have in common. -/
set_option linter.unusedVariables false
set_option linter.unusedSimpArgs false
namespace Go.Proofs.YtkipplkaffpkjaaGreat
open Go.RowKit
set_option linter.unusedVariables false

theorem tab_alike {mi mb nx : Int} {a b : List Nd} (h : onesB a b = true) : tabB mi mb nx a mi mb nx b = true := by simp [tabB, h]
theorem short13 {l : List Nd} {base p : List UInt8} (h : shortB l base p = true) : base.length ≤ 1000 ∧ p.length ≤ 5000 := by
  unfold shortB at h
  simp only [Bool.and_eq_true, decide_eq_true_eq] at h
  exact ⟨h.1.2, h.2⟩
theorem stat_ents {w : World} {v : Value} {l : List Nd} (h : Nds w v l) (base p : List UInt8) (fo : Bool) : Ents w (statF l base p fo).1.ev (statF l base p fo).1.ents := by
  unfold statF
  split
  · exact Ents.nil_ _
  split
  · exact Ents.nil_ _
  · exact get_ents h.all _
end Go.Proofs.YtkipplkaffpkjaaGreat
