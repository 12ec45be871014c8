/- Walks: strings.Clone at any length, holding. -/
import Derived.Test.YtneklkjlcpgdgaaQ
import Derived.Test.YtneklkjlcpgdgaaQShelf
import Derived.Deep.RegionWith
import Derived.Maps.AppendAt
import Derived.Deep.Cut
import Derived.Deep.CutRange
namespace Go.Proofs.Ytneklkjlcpgdgaa
open Go.RowKit

theorem CloneN_any (l : List UInt8) (w : World) (hl : l.length ≤ 281474976710656) :
    Calls Try.prog 54 #[.string ⟨l.toArray⟩] w fun e w' => e = .returned (.string ⟨l.toArray⟩) ∧ Below w.heap.size w w' := by
  go_enter Try.func54, Try.ntmps54
  go_wp2_with fail
  refine (Try.stringslite_Clone _ _ (by simp [ByteArray.size]; omega)).mono ?_
  rintro e w' ⟨rfl, hB⟩
  go_wp2
  go_ret
  exact ⟨rfl, hB⟩

/-- A table's cells. -/
abbrev fsC (mi mb nx : Int) (v : Value) : Array Value := #[.int .i64 mi, .int .i64 mb, .int .i64 nx, v]

theorem own_base {w : World} {base base' : Nat} {e : TypeId} {size : Nat} {v : Value} {n : Nat} {xs : List Value} (h : w.ownsRow base e size v n xs) (hb : base' ≤ base) : w.ownsRow base' e size v n xs := by
  refine ⟨h.1, ?_⟩
  rcases h.2 with h2 | ⟨g, cap, cur, hv, hg, r⟩
  · exact .inl h2
  · exact .inr ⟨g, cap, cur, hv, Nat.le_trans hb hg, r⟩
/-- An owned row: nil, or a block. -/
theorem own_cases {w : World} {base : Nat} {e : TypeId} {size : Nat} {v : Value} {n : Nat} {xs : List Value} (h : w.ownsRow base e size v n xs) :
    (v = .slice none 0 0 ∧ n = 0 ∧ xs = []) ∨ ∃ g cap, v = .slice (some ⟨g, 0, none⟩) n cap ∧ base ≤ g ∧ g < w.heap.size ∧ n ≤ cap ∧ cap ≤ maxLen := by
  rcases h.2 with ⟨rfl, rfl⟩ | ⟨g, cap, cur, rfl, hg, hh, hnc, hcm, _⟩
  · exact .inl ⟨rfl, rfl, List.eq_nil_of_length_eq_zero (by simpa using h.1)⟩
  · exact .inr ⟨g, cap, rfl, hg, (Array.getElem?_eq_some_iff.1 hh).1, hnc, hcm⟩
/-- A cell of an owned row set to what it holds. -/
theorem own_set_same {w : World} {base : Nat} {e : TypeId} {size g cap n : Nat} {xs : List Value} (h : w.ownsRow base e size (.slice (some ⟨g, 0, none⟩) n cap) n xs) {j : Nat} {u : Value} (hj : xs[j]? = some u) :
    (w.setCell ⟨g, j, none⟩ u).ownsRow base e size (.slice (some ⟨g, 0, none⟩) n cap) n xs ∧ w.grownBy (w.setCell ⟨g, j, none⟩ u) (some g) := by
  have h2 := h.stored j u
  have e1 : xs.set j u = xs := by
    apply List.ext_getElem?
    intro i
    rw [List.getElem?_set]
    split
    · rename_i e; subst e
      split
      · exact hj.symm
      · rename_i hh; rw [List.getElem?_eq_none (by omega)]
    · rfl
  simpa [e1] using h2
theorem own_at {w : World} {base : Nat} {e : TypeId} {g cap : Nat} {L : List Nd} (h : w.ownsRow base e 6 (.slice (some ⟨g, 0, none⟩) L.length cap) L.length (ndsV L)) {k : Nat} (hk : k < L.length) : NdAt w g (k * 6) L[k] := by
  have hat := ndsV_at L k hk
  have c := fun j (hj : j < L.length * 6) => h.cellAt j hj
  exact ⟨(c _ (by omega)).trans hat.1, (c _ (by omega)).trans hat.2.1, (c _ (by omega)).trans hat.2.2.1, (c _ (by omega)).trans hat.2.2.2.1, (c _ (by omega)).trans hat.2.2.2.2.1, (c _ (by omega)).trans hat.2.2.2.2.2⟩
/-- A block of four cells: what a walk asks of it. -/
theorem Blk.four {W : World} {B : Nat} {t : TypeId} {a b c d : Value} (h : Blk W B t #[a, b, c, d]) :
    (W.cell? ⟨B, 0, none⟩ = some a ∧ W.cell? ⟨B, 1, none⟩ = some b ∧ W.cell? ⟨B, 2, none⟩ = some c ∧ W.cell? ⟨B, 3, none⟩ = some d) ∧
      (W.frozen? ⟨B, 0, none⟩ = false ∧ W.frozen? ⟨B, 1, none⟩ = false ∧ W.frozen? ⟨B, 2, none⟩ = false ∧ W.frozen? ⟨B, 3, none⟩ = false) :=
  ⟨⟨(h.cell 0).trans rfl, (h.cell 1).trans rfl, (h.cell 2).trans rfl, (h.cell 3).trans rfl⟩, h.frozen 0, h.frozen 1, h.frozen 2, h.frozen 3⟩
/-- A struct of four cells stored whole. -/
theorem Blk.put4 {W : World} {B : Nat} {t : TypeId} {a b c d : Value} (h : Blk W B t #[a, b, c, d]) (p q r s : Value) :
    ∃ W', (((W.setCell ⟨B, 0, none⟩ p).setCell ⟨B, 1, none⟩ q).setCell ⟨B, 2, none⟩ r).setCell ⟨B, 3, none⟩ s = W' ∧ Blk W' B t #[p, q, r, s] ∧ W.grownBy W' (some B) := by
  refine ⟨_, rfl, ?_, ?_⟩
  · exact (((h.set 0 p).set 1 q).set 2 r).set 3 s
  · exact (((grownBy_set W B 0 p).trans (grownBy_set _ B 1 q)).trans (grownBy_set _ B 2 r)).trans (grownBy_set _ B 3 s)
theorem below_grown {n : Nat} {w0 W W' : World} {B : Nat} (h : Below n w0 W) (hg : W.grownBy W' (some B)) (hn : n ≤ w0.heap.size) (hB : n ≤ B) : Below n w0 W' := h.grown hg (Nat.le_trans hn h.size) (fun k hk => by cases hk; exact hB)
/-- A block of six cells: what a walk asks of it. -/
def Six (W : World) (B : Nat) (x : Nd) : Prop := W.cell? ⟨B, 0, none⟩ = some (.int .i64 x.ino) ∧ W.cell? ⟨B, 1, none⟩ = some (.int .i64 x.kind) ∧ W.cell? ⟨B, 2, none⟩ = some (.int .i64 x.links) ∧
  W.cell? ⟨B, 3, none⟩ = some (.string ⟨x.data.toArray⟩) ∧ W.cell? ⟨B, 4, none⟩ = some (.int .i64 x.parent) ∧ W.cell? ⟨B, 5, none⟩ = some x.ev
theorem Blk.six {W : World} {B : Nat} {t : TypeId} {x : Nd} (h : Blk W B t (ndC x)) :
    Six W B x ∧ (W.frozen? ⟨B, 0, none⟩ = false ∧ W.frozen? ⟨B, 1, none⟩ = false ∧ W.frozen? ⟨B, 2, none⟩ = false ∧ W.frozen? ⟨B, 3, none⟩ = false ∧ W.frozen? ⟨B, 4, none⟩ = false ∧ W.frozen? ⟨B, 5, none⟩ = false) :=
  ⟨⟨(h.cell 0).trans rfl, (h.cell 1).trans rfl, (h.cell 2).trans rfl, (h.cell 3).trans rfl, (h.cell 4).trans rfl, (h.cell 5).trans rfl⟩, h.frozen 0, h.frozen 1, h.frozen 2, h.frozen 3, h.frozen 4, h.frozen 5⟩

theorem PartsN.below {w w' : World} {v : Value} {ps : List (List Nd)} (h : PartsN w v ps) (hb : Below w.heap.size w w') : PartsN w' v ps := by
  obtain ⟨a, cap, rfl, h1⟩ := h
  refine ⟨a, cap, rfl, fun hl => ?_⟩
  obtain ⟨b, off, rfl, hlt, hx⟩ := h1 hl
  refine ⟨b, off, rfl, Nat.lt_of_lt_of_le hlt hb.size, fun i hi => ?_⟩
  obtain ⟨x, hc, hn⟩ := hx i hi
  exact ⟨x, (hb.cell (p := ⟨b, off + i, none⟩) hlt).trans hc, hn.below hb⟩

end Go.Proofs.Ytneklkjlcpgdgaa
