import Derived.Test.YtoejjdebfjepaaaGreatQWalkE14
import Derived.Test.YtoejjdebfjepaaaGreatQWalkF14
import Derived.Test.YtoejjdebfjepaaaGreatQWalkG14
import Derived.Test.YtoejjdebfjepaaaGreatQWalkH14
import Derived.Test.YtoejjdebfjepaaaGreatQWalkI14
set_option linter.unusedVariables false
set_option linter.unusedSimpArgs false
/- Walks: the document's Rename (printed by tools/rename14.py). -/
set_option linter.unusedVariables false
set_option linter.unusedSimpArgs false
namespace Go.Proofs.YtoejjdebfjepaaaGreat
open Go.RowKit

theorem refRename_any (mi mb nx : Int) (l : List Nd) (base src dst : List UInt8) (v : Value) (w : World) (hv : Nds w v l) (hf : Fit l) (hb : base.length ≤ 100000) (hp : src.length ≤ 100000) (hp2 : dst.length ≤ 100000) (hsn : (seekP l base dst false).1.name.length ≤ 100000) (hln : ∀ i, 0 ≤ (getN l i).links ∧ (getN l i).links ≤ 1000000)
    (hT : (∀ ev e1 e2, (renameF l base src dst ev e1 e2).2 = 0) → (seekP l base src false).1.ino ≠ (seekP l base dst false).1.ino → MvOk l (seekP l base src false).1 (seekP l base dst false).1) :
    Calls Tryz.prog 11 #[.agg (fsC mi mb nx v), .string ⟨base.toArray⟩, .string ⟨src.toArray⟩, .string ⟨dst.toArray⟩] w fun e w' => ∃ y ev e1 e2, e = .returned (.tuple #[.agg (fsC mi mb nx y), .int .i64 (renameF l base src dst ev e1 e2).2]) ∧ MadeFs w v l w' y (renameF l base src dst ev e1 e2).1 ∧ Below w.heap.size w w' := by
  by_cases h1 : (seekP l base src false).2 = 0
  rotate_left
  · exact refRename_early mi mb nx l base src dst v w hv hf hb hp hp2 (.inl h1)
  by_cases h2 : (seekP l base src false).1.ino = 0
  · exact refRename_early mi mb nx l base src dst v w hv hf hb hp hp2 (.inr (.inl h2))
  by_cases h3 : (seekP l base src false).1.name = []
  · exact refRename_early mi mb nx l base src dst v w hv hf hb hp hp2 (.inr (.inr (.inl h3)))
  by_cases h4 : (seekP l base dst false).2 = 0
  rotate_left
  · exact refRename_early mi mb nx l base src dst v w hv hf hb hp hp2 (.inr (.inr (.inr (.inl h4))))
  by_cases h5 : (seekP l base dst false).1.name = []
  · exact refRename_early mi mb nx l base src dst v w hv hf hb hp hp2 (.inr (.inr (.inr (.inr (.inl h5)))))
  by_cases h6 : (seekP l base src false).1.ino = (seekP l base dst false).1.ino
  · exact refRename_early mi mb nx l base src dst v w hv hf hb hp hp2 (.inr (.inr (.inr (.inr (.inr h6)))))
  by_cases hk : (getN l (seekP l base src false).1.ino).kind = 2 <;> by_cases hpc : (seekP l base dst false).1.ino = 0
  · exact refRename_dir_none mi mb nx l base src dst v w hv hf hb hp hp2 hsn hln hT h1 h2 h3 h4 h5 h6 hk hpc
  · exact refRename_dir_over mi mb nx l base src dst v w hv hf hb hp hp2 hsn hln hT h1 h2 h3 h4 h5 h6 hk hpc
  · exact refRename_leaf_none mi mb nx l base src dst v w hv hf hb hp hp2 hsn hln hT h1 h2 h3 h4 h5 h6 hk hpc
  · exact refRename_leaf_over mi mb nx l base src dst v w hv hf hb hp hp2 hsn hln hT h1 h2 h3 h4 h5 h6 hk hpc
end Go.Proofs.YtoejjdebfjepaaaGreat
