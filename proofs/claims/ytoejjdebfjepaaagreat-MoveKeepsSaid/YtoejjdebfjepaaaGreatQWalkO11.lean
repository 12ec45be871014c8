import Derived.Test.YtoejjdebfjepaaaGreatQWalkP10
import Derived.Test.YtoejjdebfjepaaaGreatQMWalkD07
import Derived.Test.YtoejjdebfjepaaaGreatQMWalkB05
import Derived.Test.YtoejjdebfjepaaaGreatQMWalkK05
import Derived.Test.YtoejjdebfjepaaaGreatQMWalkB03
import Derived.Test.YtoejjdebfjepaaaGreatQMWalkF03
import Derived.Deep.RegionWith
import Derived.Deep.Cut
set_option linter.unusedVariables false
set_option linter.unusedSimpArgs false
/- Walks: the program's with: an inode put in. -/
set_option linter.unusedVariables false
set_option linter.unusedSimpArgs false
namespace Go.Proofs.YtoejjdebfjepaaaGreat
open Go.RowKit

/-- A row's own block is none that is made later. -/
theorem own_far {w : World} {base : Nat} {e : TypeId} {size : Nat} {v : Value} {n : Nat} {xs : List Value} (h : w.ownsRow base e size v n xs) {B : Nat} (hB : w.heap.size ≤ B) : v.ownBlock = none ∨ v.ownBlock ≠ some B := by
  obtain ⟨h1, h2⟩ := h
  rcases h2 with ⟨rfl, _⟩ | ⟨g, cap, cur, rfl, hg, hh, r⟩
  · exact .inl rfl
  · have hlt : g < w.heap.size := by
      rcases Nat.lt_or_ge g w.heap.size with h | h
      · exact h
      · simp [Array.getElem?_eq_none h] at hh
    right; simp [Value.ownBlock]; omega

end Go.Proofs.YtoejjdebfjepaaaGreat
