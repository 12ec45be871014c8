/- Walks: the document's way on, its Seek and Dir. -/
import Derived.Test.YtkdmfeikikmiiaaGreatVWalkD10
set_option linter.unusedVariables false
set_option linter.unusedSimpArgs false
namespace Go.Proofs.YtkdmfeikikmiiaaGreat
open Go.RowKit
theorem seek_empty (l : List Nd) (base : List UInt8) (fo : Bool) : seekP l base [] fo = (zeroS, 1) := by unfold seekP; rw [if_pos rfl]
theorem seek_long {l : List Nd} {base p : List UInt8} {fo : Bool} (h0 : p ≠ []) (h : longB p = true) : seekP l base p fo = (zeroS, 7) := by unfold seekP; rw [if_neg h0, if_pos h]
theorem seek_abs {l : List Nd} {base p : List UInt8} {fo : Bool} (h0 : p ≠ []) (h : longB p = false) (h1 : absB p = true) : seekP l base p fo = onN l fo 40 rootS (namesB p) (slashB p) := by
  unfold seekP; rw [if_neg h0, if_neg (by rw [h]; simp), if_pos h1]
theorem seek_bad {l : List Nd} {base p : List UInt8} {fo : Bool} (h0 : p ≠ []) (h : longB p = false) (h1 : absB p = false) (h2 : (homeP l base).2 ≠ 0) : seekP l base p fo = (zeroS, (homeP l base).2) := by
  unfold seekP; rw [if_neg h0, if_neg (by rw [h]; simp), if_neg (by rw [h1]; simp), if_pos h2]
theorem seek_from {l : List Nd} {base p : List UInt8} {fo : Bool} (h0 : p ≠ []) (h : longB p = false) (h1 : absB p = false) (h2 : (homeP l base).2 = 0) : seekP l base p fo = onN l fo 40 ⟨0, [], (homeP l base).1⟩ (namesB p) (slashB p) := by
  unfold seekP; rw [if_neg h0, if_neg (by rw [h]; simp), if_neg (by rw [h1]; simp), if_neg (by simp [h2])]
end Go.Proofs.YtkdmfeikikmiiaaGreat
