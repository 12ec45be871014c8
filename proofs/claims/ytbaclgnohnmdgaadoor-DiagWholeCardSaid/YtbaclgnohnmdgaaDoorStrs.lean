/- Slices of texts: one that came in, one of the call's own. -/
import Derived.Test.YtbaclgnohnmdgaaDoorAid
import Derived.Lib.AppendStr
set_option linter.unusedVariables false
set_option linter.unusedSimpArgs false
namespace Go.Proofs.YtbaclgnohnmdgaaDoor
open Go.RowKit

def strsV (ws : List (List UInt8)) : List Value := ws.map fun l => .string ⟨l.toArray⟩

/-- A slice that reads as these texts. -/
def Strs (w : World) (v : Value) (l : List (List UInt8)) : Prop :=
  ∃ a cap, v = .slice a l.length cap ∧ l.length ≤ maxLen ∧ (0 < l.length → ∃ b off, a = some ⟨b, off, none⟩ ∧ b < w.heap.size ∧ ∀ i (h : i < l.length), w.cell? ⟨b, off + i, none⟩ = some (.string ⟨l[i].toArray⟩))

theorem Strs.below {w w' : World} {v : Value} {l : List (List UInt8)} (h : Strs w v l) (hb : Below w.heap.size w w') : Strs w' v l := by
  obtain ⟨a, cap, rfl, hm, h1⟩ := h
  refine ⟨a, cap, rfl, hm, fun hl => ?_⟩
  obtain ⟨b, off, rfl, hlt, hc⟩ := h1 hl
  exact ⟨b, off, rfl, Nat.lt_of_lt_of_le hlt hb.size, fun i hi => (hb.cell (p := ⟨b, off + i, none⟩) hlt).trans (hc i hi)⟩

theorem Strs.nil_ (w : World) : Strs w (.slice none 0 0) [] := ⟨none, 0, rfl, Nat.zero_le _, fun h => absurd h (by simp)⟩

theorem own_strs {w : World} {base : Nat} {e : TypeId} {v : Value} {n : Nat} {l : List (List UInt8)} (h : w.ownsRow base e 1 v n (strsV l)) : Strs w v l := by
  have hlen := h.1
  simp [strsV] at hlen
  subst hlen
  rcases h.2 with ⟨rfl, h0⟩ | ⟨g, cap, cur, rfl, hg, hh, hnc, hcm, hsz, htk⟩
  · have : l = [] := List.eq_nil_of_length_eq_zero h0
    subst this
    exact ⟨none, 0, rfl, Nat.zero_le _, fun h => absurd h (by simp)⟩
  · refine ⟨_, cap, rfl, by omega, fun _ => ⟨g, 0, rfl, ?_, fun i hi => ?_⟩⟩
    · exact (h.lt g rfl).2
    · have hc := World.ownsRow.cells h (g := g) rfl i (.string ⟨l[i].toArray⟩) (by simp [strsV, List.getElem?_eq_getElem hi])
      rw [Addr.add_lit] at hc
      exact hc

/-- Texts in a block that was just made for them. -/
theorem new_strs (w : World) (t : TypeId) (C : Array Value) (l : List (List UInt8)) (n cap : Nat) (hC : C = (strsV l).toArray) (hn : n = l.length) (hm : l.length ≤ maxLen) : Strs (w.alloc (.cells C t)) (.slice (some ⟨w.heap.size, 0, none⟩) n cap) l := by
  subst hC hn
  refine ⟨_, cap, rfl, hm, fun _ => ⟨w.heap.size, 0, rfl, by simp, fun i hi => ?_⟩⟩
  have := cells_block w (strsV l).toArray t i (.string ⟨l[i].toArray⟩) (by simp [strsV, List.getElem?_eq_getElem hi])
  rw [Addr.add_lit] at this
  exact this

theorem bytesV_str (l : List UInt8) : Lib.strCells ⟨l.toArray⟩ = bytesV l := by simp [Lib.strCells, bytesV]
end Go.Proofs.YtbaclgnohnmdgaaDoor
