/- Walks: the parts' entries in one list. -/
import Derived.Test.YtneklkjlcpgdgaaQ
import Derived.Test.YtneklkjlcpgdgaaQCopyN
import Derived.Test.YtneklkjlcpgdgaaQClone
import Derived.OwnWalk
import Derived.Deep.LoopGhost
namespace Go.Proofs.Ytneklkjlcpgdgaa
open Go.RowKit

theorem infoE : (Try.prog.info? 55).map (fun i => (i.zero, i.size, i.bytes)) = some (some (.agg #[.string ⟨#[]⟩, .int .i64 0]), 2, 24) := by kernel_rfl
theorem sizeE : (Try.prog.info? 55).map (·.size) = some 2 := by kernel_rfl

/-- A slice of slices of entries. -/
def Parts (w : World) (v : Value) (ps : List (List Ent)) : Prop :=
  ∃ a cap, v = .slice a ps.length cap ∧ (0 < ps.length → ∃ b off, a = some ⟨b, off, none⟩ ∧ b < w.heap.size ∧ ∀ i (h : i < ps.length), ∃ x, w.cell? ⟨b, off + i, none⟩ = some x ∧ Ents w x ps[i])

/-- New entries: a block of the call's own. -/
def NewEnts (w : World) (L : List Ent) (e : Ending) (w' : World) : Prop :=
  ∃ g, e = .returned (.slice (some ⟨g, 0, none⟩) L.length L.length) ∧ w.heap.size ≤ g ∧ Blk w' g 55 (entsV L).toArray ∧ Below w.heap.size w w'
theorem blk_ents {w : World} {g : Nat} {t : TypeId} {L : List Ent} (h : Blk w g t (entsV L).toArray) (hl : L.length ≤ maxLen) : Ents w (.slice (some ⟨g, 0, none⟩) L.length L.length) L := by
  refine ⟨_, _, rfl, Nat.le_refl _, hl, fun _ => ⟨g, 0, rfl, h.lt, fun i hi => ?_⟩⟩
  rw [h.cell, h.cell, Nat.zero_add]
  simpa using entsV_at L i hi

theorem flat_take (ps : List (List Ent)) (k : Nat) (h : k < ps.length) : (ps.take (k + 1)).flatten = (ps.take k).flatten ++ ps[k] := by
  rw [List.take_succ_eq_append_getElem h, List.flatten_append]; simp
theorem flat_le (ps : List (List Ent)) (k : Nat) : (ps.take k).flatten.length ≤ ps.flatten.length := by
  conv => rhs; rw [← List.take_append_drop k ps, List.flatten_append, List.length_append]
  omega
theorem flat_mem {ps : List (List Ent)} {k : Nat} (h : k < ps.length) {e : Ent} (he : e ∈ ps[k]) : e ∈ ps.flatten := List.mem_flatten.2 ⟨_, List.getElem_mem h, he⟩

def flatN (ps : List (List Ent)) (k : Nat) : Nat := (ps.take k).flatten.length
theorem flatN_next {ps : List (List Ent)} {k : Nat} (h : k < ps.length) : flatN ps (k + 1) = flatN ps k + ps[k].length := by
  unfold flatN; rw [flat_take ps k h, List.length_append]
theorem flatN_le (ps : List (List Ent)) (k : Nat) : flatN ps k ≤ ps.flatten.length := flat_le ps k
theorem flatN_end (ps : List (List Ent)) : flatN ps ps.length = ps.flatten.length := by unfold flatN; rw [List.take_length]
theorem splice_ents (F p : List Ent) (Z : List Value) (h : p.length * 2 ≤ Z.length) : splice (entsV F ++ Z) (F.length * 2) (entsV p) = entsV (F ++ p) ++ Z.drop (p.length * 2) := by
  unfold splice
  rw [entsV_append, List.take_append_of_le_length (by rw [entsV_len]; exact Nat.le_refl _), List.take_of_length_le (by rw [entsV_len]; exact Nat.le_refl _), entsV_len,
    List.drop_append, entsV_len, List.drop_eq_nil_of_le (by rw [entsV_len]; omega), List.nil_append, show F.length * 2 + p.length * 2 - F.length * 2 = p.length * 2 from by omega, List.append_assoc]

end Go.Proofs.Ytneklkjlcpgdgaa
