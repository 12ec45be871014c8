/- strings.Builder: Grow of a builder that was not written. -/
import Derived.Test.YthhnkakobjbdlaaBld
set_option linter.unusedVariables false
set_option linter.unusedSimpArgs false
namespace Go.Proofs.Ythhnkakobjbdlaa
open Go.RowKit

theorem bldGrow_any (n : Nat) (w : World) (hn : n ≤ 1000000000) :
    Calls Try.prog 23 #[.pointer (some ⟨w.heap.size, 0, none⟩), .int .i64 n] (w.alloc (.cells #[.pointer none, .slice none 0 0] 42)) fun e w' => e = .returned (.tuple #[]) ∧ BldW w.heap.size w.heap.size [] w' ∧ Below w.heap.size w w' := by
  have B0 : Below w.heap.size w (w.alloc (.cells #[.pointer none, .slice none 0 0] 42)) := (Below.refl _ w).alloc (Nat.le_refl _) _
  refine (Try.Builder_Grow_fresh w.heap.size w.heap.size n _ (Nat.le_refl _) (World.alloc_heap_new w _) (by simp) (by omega)).mono ?_
  rintro e w' ⟨rfl, h1, h2⟩
  exact ⟨rfl, .inr h1, B0.trans h2⟩
end Go.Proofs.Ythhnkakobjbdlaa
