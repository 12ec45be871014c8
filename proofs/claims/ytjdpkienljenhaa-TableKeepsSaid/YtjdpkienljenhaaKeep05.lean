/- A room of zero inodes, inodes copied into it; six cells stored. -/
import Derived.Test.YtjdpkienljenhaaWalkD05
import Derived.Test.YtjdpkienljenhaaCopyN
namespace Go.Proofs.Ytjdpkienljenhaa
open Go.RowKit

theorem made_nds (n : Nat) : (madeCells (Value.agg #[.int .i64 0, .int .i64 0, .int .i64 0, .string ⟨#[]⟩, .int .i64 0, .slice none 0 0]).cells (n * 6)).toList = ndsV (List.replicate n zeroN) := by
  have e0 : (Value.agg #[.int .i64 0, .int .i64 0, .int .i64 0, .string ⟨#[]⟩, .int .i64 0, .slice none 0 0]).cells = #[.int .i64 0, .int .i64 0, .int .i64 0, .string ⟨#[]⟩, .int .i64 0, .slice none 0 0] := rfl
  rw [e0]
  induction n with
  | zero => simp [madeCells, ndsV]
  | succ n ih =>
    rw [List.replicate_succ', ndsV_append, ← ih]
    unfold madeCells
    rw [show (n + 1) * 6 = n * 6 + 1 + 1 + 1 + 1 + 1 + 1 from by omega]
    simp only [Array.toList_map, Array.toList_range, List.range_succ, List.map_append, List.append_assoc]
    have h1 : n * 6 % 6 = 0 := by omega
    have h2 : (n * 6 + 1) % 6 = 1 := by omega
    have h3 : (n * 6 + 1 + 1) % 6 = 2 := by omega
    have h4 : (n * 6 + 1 + 1 + 1) % 6 = 3 := by omega
    have h5 : (n * 6 + 1 + 1 + 1 + 1) % 6 = 4 := by omega
    have h6 : (n * 6 + 1 + 1 + 1 + 1 + 1) % 6 = 5 := by omega
    simp [ndsV, zeroN, h1, h2, h3, h4, h5, h6]
theorem ndsV_drop (l : List Nd) : ∀ k, (ndsV l).drop (k * 6) = ndsV (l.drop k) := by
  induction l with
  | nil => simp [ndsV]
  | cons e l ih =>
    intro k
    cases k with
    | zero => simp [ndsV]
    | succ k => rw [show (k + 1) * 6 = k * 6 + 6 from by omega]; simp [ndsV, ih]
theorem splice_roomN (l : List Nd) (m : Nat) : splice (ndsV (List.replicate (l.length + m) zeroN)) 0 (ndsV l) = ndsV (l ++ List.replicate m zeroN) := by
  unfold splice
  rw [List.take_zero, List.nil_append, Nat.zero_add, ndsV_len, ndsV_drop, ndsV_append, List.drop_replicate, Nat.add_sub_cancel_left]
theorem sizeN : (Try.prog.info? 35).map (·.size) = some 6 := by kernel_rfl

/-- make, then copy: the run of the copy, and what lies in the room behind it. -/
theorem room_copyN {w : World} {base g : Nat} {a : Option Addr} {ca m : Nat} {l : List Nd} (hm : l.length + m ≤ maxLen)
    (hown : w.ownsRow base 35 6 (.slice (some ⟨g, 0, none⟩) (l.length + m) (l.length + m)) (l.length + m) (madeCells (Value.agg #[.int .i64 0, .int .i64 0, .int .i64 0, .string ⟨#[]⟩, .int .i64 0, .slice none 0 0]).cells ((l.length + m) * 6)).toList) (hl : Nds w (.slice a l.length ca) l) :
    ∃ w', (Builtin.copy_ #[23, 23] 3 #[.slice (some ⟨g, 0, none⟩) (l.length + m) (l.length + m), .slice a l.length ca]).run Try.prog w = .ok (goInt l.length) w' ∧
      Blk w' g 35 (ndsV (l ++ List.replicate m zeroN)).toArray ∧ ∀ B w0, Below B w0 w → B ≤ g → Below B w0 w' := by
  rw [made_nds] at hown
  have hh : w.heap[g]? = some (.cells (ndsV (List.replicate (l.length + m) zeroN)).toArray 35 (0, 0)) := by
    rcases hown.2 with ⟨h', _⟩ | ⟨g', cap', cur, h', _, hh, h1, h2, h3, h4⟩
    · simp at h'
    · simp only [Value.slice.injEq, Option.some.injEq, Addr.mk.injEq, and_true, true_and] at h'
      obtain ⟨rfl, rfl⟩ := h'
      rw [List.take_of_length_le (by rw [Array.length_toList, h3]; exact Nat.le_refl _)] at h4
      rw [← h4]; simpa using hh
  obtain ⟨w', hrun, hg2, hb⟩ := run_copy_splice (P := Try.prog) w 23 23 3 35 6 Try.underlying23 sizeN g 0 (l.length + m) (l.length + m) a l.length ca l.length (Nat.min_eq_left (by omega)) _ 35 hh (ndsV l) (ndsV_len _)
    (fun hm0 => by
      obtain ⟨_, _, hu, _, _, _, _, h1⟩ := id hl
      simp only [Value.slice.injEq] at hu
      obtain ⟨rfl, _, rfl⟩ := hu
      obtain ⟨b, o, rfl, _⟩ := h1 hm0
      exact ⟨_, rfl, hl.src _ rfl⟩) (by rw [ndsV_len, ndsV_len, List.length_replicate]; omega) (ndsV_one hl.all)
  rw [splice_roomN] at hg2
  exact ⟨w', hrun, hg2, hb⟩
theorem zeros_all (w : World) (m : Nat) : EntsAll w (List.replicate m zeroN) := fun x hx => by rw [List.eq_of_mem_replicate hx]; exact Ents.nil_ w
theorem room_ownN {w : World} {g m : Nat} {t : TypeId} {l : List Nd} (h : Blk w g t (ndsV (l ++ List.replicate m zeroN)).toArray) (hm : l.length + m ≤ maxLen) (he : EntsAll w l) : Nds w (.slice (some ⟨g, 0, none⟩) l.length (l.length + m)) l := by
  have h1 := blk_nds h (by rw [List.length_append, List.length_replicate]; exact hm) (fun x hx => (List.mem_append.1 hx).elim (he x) (zeros_all w m x)) (l.length + m) (by simp)
  have h2 := h1.head l.length (l.length + m) (by rw [List.length_append]; omega) (by omega) hm (fun h => by cases h)
  rwa [List.take_left' rfl] at h2

/-- Six cells of a block stored. -/
theorem Blk.six_at {W : World} {B : Nat} {t : TypeId} {C : Array Value} (h : Blk W B t C) (o : Nat) (v0 v1 v2 v3 v4 v5 : Value) :
    ∃ W' C', (((((W.setCell ⟨B, o, none⟩ v0).setCell ⟨B, o + 1, none⟩ v1).setCell ⟨B, o + 2, none⟩ v2).setCell ⟨B, o + 3, none⟩ v3).setCell ⟨B, o + 4, none⟩ v4).setCell ⟨B, o + 5, none⟩ v5 = W' ∧ Blk W' B t C' ∧ C'.size = C.size ∧ W.grownBy W' (some B) := by
  refine ⟨_, _, rfl, (((((h.set o v0).set (o + 1) v1).set (o + 2) v2).set (o + 3) v3).set (o + 4) v4).set (o + 5) v5, by simp, ?_⟩
  exact (((((grownBy_set W B _ _).trans (grownBy_set _ B _ _)).trans (grownBy_set _ B _ _)).trans (grownBy_set _ B _ _)).trans (grownBy_set _ B _ _)).trans (grownBy_set _ B _ _)
theorem Blk.at_six {W : World} {B : Nat} {t : TypeId} {C : Array Value} (h : Blk W B t C) {o : Nat} (ho : o + 6 ≤ C.size) :
    ∃ v0 v1 v2 v3 v4 v5, (W.cell? ⟨B, o, none⟩ = some v0 ∧ W.cell? ⟨B, o + 1, none⟩ = some v1 ∧ W.cell? ⟨B, o + 2, none⟩ = some v2 ∧ W.cell? ⟨B, o + 3, none⟩ = some v3 ∧ W.cell? ⟨B, o + 4, none⟩ = some v4 ∧ W.cell? ⟨B, o + 5, none⟩ = some v5) ∧
      (W.frozen? ⟨B, o, none⟩ = false ∧ W.frozen? ⟨B, o + 1, none⟩ = false ∧ W.frozen? ⟨B, o + 2, none⟩ = false ∧ W.frozen? ⟨B, o + 3, none⟩ = false ∧ W.frozen? ⟨B, o + 4, none⟩ = false ∧ W.frozen? ⟨B, o + 5, none⟩ = false) := by
  refine ⟨C[o], C[o + 1], C[o + 2], C[o + 3], C[o + 4], C[o + 5], ⟨?_, ?_, ?_, ?_, ?_, ?_⟩, h.frozen _, h.frozen _, h.frozen _, h.frozen _, h.frozen _, h.frozen _⟩ <;> rw [h.cell, Array.getElem?_eq_getElem]
end Go.Proofs.Ytjdpkienljenhaa
