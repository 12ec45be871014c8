/- Texts put together: WalkC14, WalkA15, WalkB15. -/
import Derived.Test.YtkdmfeikikmiiaaGreatVWalkE14
import Derived.Test.YtkdmfeikikmiiaaGreatVWalkF14
import Derived.Test.YtkdmfeikikmiiaaGreatVWalkG14
import Derived.Test.YtkdmfeikikmiiaaGreatVWalkH14
import Derived.Test.YtkdmfeikikmiiaaGreatVWalkI14
import Derived.Test.YtkdmfeikikmiiaaGreatVWalkD12
import Derived.Test.YtkdmfeikikmiiaaGreatVMWalkD11
import Derived.Test.YtkdmfeikikmiiaaGreatVMWalkF07
import Derived.Test.YtkdmfeikikmiiaaGreatVMWalkB05
import Derived.Test.YtkdmfeikikmiiaaGreatVMWalkH05
import Derived.Deep.RegionWith
set_option linter.unusedVariables false
set_option linter.unusedSimpArgs false
namespace Go.Proofs.YtkdmfeikikmiiaaGreat
open Go.RowKit
/-- What was made behind m is as it was, but for one row's own block. -/
def KeepO (m : Nat) (o : Option Nat) (w W : World) : Prop := w.heap.size ≤ W.heap.size ∧ ∀ b, m ≤ b → b < w.heap.size → o ≠ some b → W.heap[b]? = w.heap[b]?
/-- A table that a loop keeps making, beside a row of its own. -/
def MadeG (m : Nat) (o : Option Nat) (v : Value) (l : List Nd) (w : World) (y : Value) (L : List Nd) : Prop := ∀ W, KeepO m o w W → Nds W v l → Nds W y L
theorem MadeG.start (m : Nat) (o : Option Nat) (v : Value) (l : List Nd) (w : World) : MadeG m o v l w v l := fun _ _ h => h
theorem MadeG.now {m : Nat} {o : Option Nat} {v y : Value} {l L : List Nd} {w : World} (h : MadeG m o v l w y L) (hv : Nds w v l) : Nds w y L := h w ⟨Nat.le_refl _, fun _ _ _ _ => rfl⟩ hv
theorem MadeG.call {m : Nat} {o : Option Nat} {v y y3 : Value} {l l2 l3 : List Nd} {w w3 : World} (h : MadeG m o v l w y l2) (c : MadeFs w y l2 w3 y3 l3) (hb : Below w.heap.size w w3) (ho : ∀ g, o = some g → g < w.heap.size) (hm : m ≤ w.heap.size) : MadeG m o v l w3 y3 l3 := fun W hk hv =>
  c W ⟨hk.1, fun b h1 h2 => hk.2 b (Nat.le_trans hm h1) h2 (fun e => by have := ho b e; omega)⟩
    (h W ⟨Nat.le_trans hb.size hk.1, fun b h1 h2 h3 => (hk.2 b h1 (Nat.lt_of_lt_of_le h2 hb.size) h3).trans (hb.block b h2)⟩ hv)
/-- A call from a world where one box more was made ahead, which is written behind it. -/
theorem MadeG.call2 {m B : Nat} {o : Option Nat} {v y y3 : Value} {l l2 l3 : List Nd} {w wz w3 w4 : World} (h : MadeG m o v l w y l2) (c : MadeFs wz y l2 w3 y3 l3) (hz : Below w.heap.size w wz) (hb : Below wz.heap.size wz w3) (ho : ∀ g, o = some g → g < w.heap.size) (hm : m ≤ w.heap.size) (hB1 : w.heap.size ≤ B) (hB2 : B < wz.heap.size) (hg : w3.grownBy w4 (some B)) : MadeG m o v l w4 y3 l3 := fun W hk hv =>
  c W ⟨Nat.le_trans hg.size hk.1, fun b h1 h2 => (hk.2 b (Nat.le_trans hm (Nat.le_trans hz.size h1)) (Nat.lt_of_lt_of_le h2 hg.size) (fun e => by have := ho b e; have := hz.size; omega)).trans (hg.block b h2 (fun e => by have := Option.some.inj e; omega))⟩
    (h W ⟨Nat.le_trans (Nat.le_trans (Nat.le_trans hz.size hb.size) hg.size) hk.1, fun b h1 h2 h3 => by
      have h4 : b < wz.heap.size := Nat.lt_of_lt_of_le h2 hz.size
      have h5 : b < w3.heap.size := Nat.lt_of_lt_of_le h4 hb.size
      rw [hk.2 b h1 (Nat.lt_of_lt_of_le h5 hg.size) h3, hg.block b h5 (fun e => by have := Option.some.inj e; omega), hb.block b h4]
      exact hz.block b h2⟩ hv)
theorem MadeG.kept {m : Nat} {o : Option Nat} {v y : Value} {l L : List Nd} {w w4 : World} (h : MadeG m o v l w y L) (k : Kept m w w4) : MadeG m o v l w4 y L := fun W hk hv =>
  h W ⟨Nat.le_trans k.1 hk.1, fun b h1 h2 h3 => (hk.2 b h1 (Nat.lt_of_lt_of_le h2 k.1) h3).trans (k.2 b h1 h2)⟩ hv
theorem MadeG.out {m n : Nat} {o : Option Nat} {v y : Value} {l L : List Nd} {w w' : World} (h : MadeG m o v l w y L) (k : Kept m w w') (hm : n ≤ m) : ∀ W, Kept n w' W → Nds W v l → Nds W y L := fun W hk hv =>
  h W ⟨Nat.le_trans k.1 hk.1, fun b h1 h2 _ => (hk.2 b (Nat.le_trans hm h1) (Nat.lt_of_lt_of_le h2 k.1)).trans (k.2 b h1 h2)⟩ hv
end Go.Proofs.YtkdmfeikikmiiaaGreat
