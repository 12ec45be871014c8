/- Texts put together: Made11, WalkJ05, WalkK05. -/
import Derived.Test.YtkdmfeikikmiiaaGreatVWalkE05
import Derived.BigQuiet
set_option linter.unusedVariables false
set_option linter.unusedSimpArgs false
namespace Go.Proofs.YtkdmfeikikmiiaaGreat
open Go.RowKit
/-- What was made behind n is as it was. -/
def Kept (n : Nat) (w W : World) : Prop := w.heap.size ≤ W.heap.size ∧ ∀ b, n ≤ b → b < w.heap.size → W.heap[b]? = w.heap[b]?
theorem Kept.refl (n : Nat) (w : World) : Kept n w w := ⟨Nat.le_refl _, fun _ _ _ => rfl⟩
theorem Kept.of_below {n : Nat} {w W : World} (h : Below w.heap.size w W) : Kept n w W := ⟨h.size, fun b _ hb => h.block b hb⟩
theorem Kept.mono {n m : Nat} {w W : World} (h : Kept n w W) (hm : n ≤ m) : Kept m w W := ⟨h.1, fun b h1 h2 => h.2 b (Nat.le_trans hm h1) h2⟩
theorem Kept.trans {n : Nat} {w W X : World} (h : Kept n w W) (h2 : Kept n W X) : Kept n w X := ⟨Nat.le_trans h.1 h2.1, fun b h3 h4 => (h2.2 b h3 (Nat.lt_of_lt_of_le h4 h.1)).trans (h.2 b h3 h4)⟩
theorem Kept.grown {n : Nat} {w W : World} {B : Nat} (hg : w.grownBy W (some B)) (hB : B < n) : Kept n w W := ⟨hg.size, fun b h1 h2 => hg.block b h2 (by intro e; have := Option.some.inj e; omega)⟩
theorem own_kept {n : Nat} {w W : World} {base : Nat} {e : TypeId} {size : Nat} {v : Value} {k : Nat} {xs : List Value} (h : w.ownsRow base e size v k xs) (hk : Kept n w W) (hb : n ≤ base) : W.ownsRow base e size v k xs := by
  obtain ⟨h1, h2⟩ := h
  refine ⟨h1, ?_⟩
  rcases h2 with h2 | ⟨g, cap, cur, hv, hg, hh, r⟩
  · exact Or.inl h2
  · have hlt : g < w.heap.size := by
      rcases Nat.lt_or_ge g w.heap.size with h | h
      · exact h
      · simp [Array.getElem?_eq_none h] at hh
    exact Or.inr ⟨g, cap, cur, hv, hg, by rw [hk.2 g (Nat.le_trans hb hg) hlt]; exact hh, r⟩
def MadeFs (w : World) (v : Value) (l : List Nd) (w' : World) (y : Value) (L : List Nd) : Prop := ∀ W, Kept w.heap.size w' W → Nds W v l → Nds W y L
theorem MadeFs.same (w : World) (v : Value) (l : List Nd) (w' : World) : MadeFs w v l w' v l := fun _ _ h => h
theorem MadeFs.now {w w' : World} {v y : Value} {l L : List Nd} (h : MadeFs w v l w' y L) (hv : Nds w v l) (hb : Below w.heap.size w w') : Nds w' y L := h w' (Kept.refl _ _) (hv.below hb)
/-- A callee's answer, handed on. -/
theorem MadeFs.up {w w1 w2 w' : World} {v y : Value} {l L : List Nd} (h : MadeFs w1 v l w2 y L) (h1 : w.heap.size ≤ w1.heap.size) (h2 : Kept w1.heap.size w2 w') : MadeFs w v l w' y L := fun W hk hv => h W (h2.trans (hk.mono h1)) hv
end Go.Proofs.YtkdmfeikikmiiaaGreat
