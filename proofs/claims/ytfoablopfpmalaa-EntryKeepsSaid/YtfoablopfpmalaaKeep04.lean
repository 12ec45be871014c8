/- A room of zero entries, entries copied into it. -/
import Derived.Test.YtfoablopfpmalaaWalkE04
namespace Go.Proofs.Ytfoablopfpmalaa
open Go.RowKit

abbrev zeroE : Ent := ([], 0)
theorem made_ents (n : Nat) : (madeCells (Value.agg #[.string ⟨#[]⟩, .int .i64 0]).cells (n * 2)).toList = entsV (List.replicate n zeroE) := by
  have e0 : (Value.agg #[.string ⟨#[]⟩, .int .i64 0]).cells = #[.string ⟨#[]⟩, .int .i64 0] := rfl
  rw [e0]
  induction n with
  | zero => simp [madeCells, entsV]
  | succ n ih =>
    rw [List.replicate_succ', entsV_append, ← ih]
    unfold madeCells
    rw [show (n + 1) * 2 = n * 2 + 1 + 1 from by omega]
    simp only [Array.toList_map, Array.toList_range, List.range_succ, List.map_append, List.append_assoc]
    have h1 : n * 2 % 2 = 0 := by omega
    have h2 : (n * 2 + 1) % 2 = 1 := by omega
    simp [entsV, h1, h2]
theorem splice_room (l : List Ent) (m : Nat) : splice (entsV (List.replicate (l.length + m) zeroE)) 0 (entsV l) = entsV (l ++ List.replicate m zeroE) := by
  unfold splice
  rw [List.take_zero, List.nil_append, Nat.zero_add, entsV_len, entsV_drop, entsV_append, List.drop_replicate, Nat.add_sub_cancel_left]

/-- make, then copy: the run of the copy, and what lies in the room behind it. -/
theorem room_copy {w : World} {base g : Nat} {a : Option Addr} {ca m : Nat} {l : List Ent} (hm : l.length + m ≤ maxLen)
    (hown : w.ownsRow base 30 2 (.slice (some ⟨g, 0, none⟩) (l.length + m) (l.length + m)) (l.length + m) (madeCells (Value.agg #[.string ⟨#[]⟩, .int .i64 0]).cells ((l.length + m) * 2)).toList) (hl : Ents w (.slice a l.length ca) l) :
    ∃ w', (Builtin.copy_ #[22, 22] 3 #[.slice (some ⟨g, 0, none⟩) (l.length + m) (l.length + m), .slice a l.length ca]).run Try.prog w = .ok (goInt l.length) w' ∧
      Blk w' g 30 (entsV (l ++ List.replicate m zeroE)).toArray ∧ ∀ B w0, Below B w0 w → B ≤ g → Below B w0 w' := by
  rw [made_ents] at hown
  have hh : w.heap[g]? = some (.cells (entsV (List.replicate (l.length + m) zeroE)).toArray 30 (0, 0)) := by
    rcases hown.2 with ⟨h', _⟩ | ⟨g', cap', cur, h', _, hh, h1, h2, h3, h4⟩
    · simp at h'
    · simp only [Value.slice.injEq, Option.some.injEq, Addr.mk.injEq, and_true, true_and] at h'
      obtain ⟨rfl, rfl⟩ := h'
      rw [List.take_of_length_le (by rw [Array.length_toList, h3]; exact Nat.le_refl _)] at h4
      rw [← h4]; simpa using hh
  obtain ⟨w', hrun, hg2, hb⟩ := run_copy_splice (P := Try.prog) w 22 22 3 30 2 Try.underlying22 sizeE g 0 (l.length + m) (l.length + m) a l.length ca l.length (Nat.min_eq_left (by omega)) _ 30 hh (entsV l) (entsV_len _)
    (fun hm0 => by obtain ⟨ad, e1, _, e2⟩ := hl.src hm0; exact ⟨ad, e1, e2⟩) (by rw [entsV_len, entsV_len, List.length_replicate]; omega) (entsV_one _)
  rw [splice_room] at hg2
  exact ⟨w', hrun, hg2, hb⟩
theorem room_own {w : World} {g m : Nat} {t : TypeId} {l : List Ent} (h : Blk w g t (entsV (l ++ List.replicate m zeroE)).toArray) (hm : l.length + m ≤ maxLen) : Ents w (.slice (some ⟨g, 0, none⟩) l.length (l.length + m)) l := by
  have h1 := blk_ents h (by rw [List.length_append, List.length_replicate]; exact hm)
  have h2 := h1.head l.length (l.length + m) (by rw [List.length_append]; omega) (by omega) hm
  rwa [List.take_left' rfl] at h2
end Go.Proofs.Ytfoablopfpmalaa
