import Derived.Test.YtpeghnhaekebdaaQMWalkC05
import Derived.Test.YtpeghnhaekebdaaQMSeq08
set_option linter.unusedVariables false
set_option linter.unusedSimpArgs false
/- Walks: Set, Drop, Take. -/
set_option linter.unusedVariables false
set_option linter.unusedSimpArgs false
namespace Go.Proofs.Ytpeghnhaekebdaa
open Go.RowKit

theorem partsN_one {w : World} {x : Value} {A : List Nd} (hx : Nds w x A) (t : TypeId) (n : Nat) (hn : n = w.heap.size) : PartsN (w.alloc (.cells #[x] t)) (.slice (some ⟨n, 0, none⟩) 1 1) [A] := by
  subst hn
  have hb : Below w.heap.size w (w.alloc (.cells #[x] t)) := (Below.refl _ w).alloc (Nat.le_refl _) _
  have hB := Blk.new w t #[x]
  refine ⟨_, 1, rfl, fun _ => ⟨w.heap.size, 0, rfl, hB.lt, fun i hi => ?_⟩⟩
  have : i = 0 := by simp at hi; omega
  subst this
  exact ⟨x, (hB.cell 0).trans rfl, hx.below hb⟩
theorem partsN_two {w : World} {x y : Value} {A B : List Nd} (hx : Nds w x A) (hy : Nds w y B) (t : TypeId) (n : Nat) (hn : n = w.heap.size) : PartsN (w.alloc (.cells #[x, y] t)) (.slice (some ⟨n, 0, none⟩) 2 2) [A, B] := by
  subst hn
  have hb : Below w.heap.size w (w.alloc (.cells #[x, y] t)) := (Below.refl _ w).alloc (Nat.le_refl _) _
  have hB := Blk.new w t #[x, y]
  refine ⟨_, 2, rfl, fun _ => ⟨w.heap.size, 0, rfl, hB.lt, fun i hi => ?_⟩⟩
  have : i = 0 ∨ i = 1 := by simp at hi; omega
  rcases this with rfl | rfl
  · exact ⟨x, (hB.cell 0).trans rfl, hx.below hb⟩
  · exact ⟨y, (hB.cell 1).trans rfl, hy.below hb⟩
theorem partsN_three {w : World} {x y z : Value} {A B C : List Nd} (hx : Nds w x A) (hy : Nds w y B) (hz : Nds w z C) (t : TypeId) (n : Nat) (hn : n = w.heap.size) : PartsN (w.alloc (.cells #[x, y, z] t)) (.slice (some ⟨n, 0, none⟩) 3 3) [A, B, C] := by
  subst hn
  have hb : Below w.heap.size w (w.alloc (.cells #[x, y, z] t)) := (Below.refl _ w).alloc (Nat.le_refl _) _
  have hB := Blk.new w t #[x, y, z]
  refine ⟨_, 3, rfl, fun _ => ⟨w.heap.size, 0, rfl, hB.lt, fun i hi => ?_⟩⟩
  have : i = 0 ∨ i = 1 ∨ i = 2 := by simp at hi; omega
  rcases this with rfl | rfl | rfl
  · exact ⟨x, (hB.cell 0).trans rfl, hx.below hb⟩
  · exact ⟨y, (hB.cell 1).trans rfl, hy.below hb⟩
  · exact ⟨z, (hB.cell 2).trans rfl, hz.below hb⟩

theorem own_slice {w : World} {base : Nat} {e : TypeId} {size : Nat} {v : Value} {n : Nat} {xs : List Value} (h : w.ownsRow base e size v n xs) : ∃ a c, v = .slice a n c := by
  rcases own_cases h with ⟨rfl, rfl, _⟩ | ⟨g, cap, rfl, _⟩
  · exact ⟨_, _, rfl⟩
  · exact ⟨_, _, rfl⟩
theorem own_not {w : World} {base : Nat} {e : TypeId} {size : Nat} {v : Value} {n : Nat} {xs : List Value} (h : w.ownsRow base e size v n xs) {B : Nat} (hB : B < base) : v.ownBlock = none ∨ v.ownBlock ≠ some B := by
  rcases own_cases h with ⟨rfl, _⟩ | ⟨g, cap, rfl, hg, _⟩
  · exact .inl rfl
  · right; simp [Value.ownBlock]; omega
/-- The end of Set, Drop, Take: the whole table stored into the result. -/
theorem store_end {w w1 : World} {B : Nat} {t : TypeId} {L : List Nd} {a : Option Addr} {n c : Nat} {N0 : Nat} (mi mb nx : Int) (hr : Blk w1 B t (fsC 0 0 0 (.slice none 0 0))) (hown : w1.ownsRow N0 33 6 (.slice a n c) L.length (ndsV L)) (hb : Below w.heap.size w w1) (hN : w.heap.size ≤ N0) (hB : w.heap.size ≤ B) (hBN : B < N0) :
    ∃ W', (((w1.setCell ⟨B, 0, none⟩ (.int .i64 mi)).setCell ⟨B, 1, none⟩ (.int .i64 mb)).setCell ⟨B, 2, none⟩ (.int .i64 nx)).setCell ⟨B, 3, none⟩ (.slice a n c) = W' ∧ Blk W' B t (fsC mi mb nx (.slice a n c)) ∧ NewNds w L (.slice a n c) W' := by
  obtain ⟨W', hW', hb4, hg4⟩ := hr.put4 (.int .i64 mi) (.int .i64 mb) (.int .i64 nx) (.slice a n c)
  refine ⟨W', hW', hb4, own_base (hown.kept hg4 ?_) hN, below_grown hb hg4 (Nat.le_refl _) hB⟩
  cases a with
  | none => exact .inl rfl
  | some ad =>
    right
    have := (hown.lt ad.block rfl).1
    simp [Value.ownBlock]; omega

end Go.Proofs.Ytpeghnhaekebdaa
