/- Walks: With, Without, Names. -/
import Derived.Test.YtbdgcpimnkieiaaQWalkD04
import Derived.Test.YtbdgcpimnkieiaaQWalkE04
namespace Go.Proofs.Ytbdgcpimnkieiaa
open Go.RowKit

theorem parts_two {w : World} {x y : Value} {A B : List Ent} (hx : Ents w x A) (hy : Ents w y B) (t : TypeId) : Parts (w.alloc (.cells #[x, y] t)) (.slice (some ⟨w.heap.size, 0, none⟩) 2 2) [A, B] := by
  have hb : Below w.heap.size w (w.alloc (.cells #[x, y] t)) := (Below.refl _ w).alloc (Nat.le_refl _) _
  have hB := Blk.new w t #[x, y]
  refine ⟨_, 2, rfl, fun _ => ⟨w.heap.size, 0, rfl, hB.lt, fun i hi => ?_⟩⟩
  have : i = 0 ∨ i = 1 := by simp at hi; omega
  rcases this with rfl | rfl
  · exact ⟨x, (hB.cell 0).trans rfl, hx.below hb⟩
  · exact ⟨y, (hB.cell 1).trans rfl, hy.below hb⟩
theorem parts_three {w : World} {x y z : Value} {A B C : List Ent} (hx : Ents w x A) (hy : Ents w y B) (hz : Ents w z C) (t : TypeId) (n : Nat) (hn : n = w.heap.size) : Parts (w.alloc (.cells #[x, y, z] t)) (.slice (some ⟨n, 0, none⟩) 3 3) [A, B, C] := by
  subst hn
  have hb : Below w.heap.size w (w.alloc (.cells #[x, y, z] t)) := (Below.refl _ w).alloc (Nat.le_refl _) _
  have hB := Blk.new w t #[x, y, z]
  refine ⟨_, 3, rfl, fun _ => ⟨w.heap.size, 0, rfl, hB.lt, fun i hi => ?_⟩⟩
  have : i = 0 ∨ i = 1 ∨ i = 2 := by simp at hi; omega
  rcases this with rfl | rfl | rfl
  · exact ⟨x, (hB.cell 0).trans rfl, hx.below hb⟩
  · exact ⟨y, (hB.cell 1).trans rfl, hy.below hb⟩
  · exact ⟨z, (hB.cell 2).trans rfl, hz.below hb⟩

set_option maxHeartbeats 1000000 in
theorem Without_any (l : List Ent) (n : List UInt8) (v : Value) (w : World) (hv : Ents w v l) (hs : sortP l) (hl : l.length ≤ 1000000) (hsh : shortP 100000000 l) :
    Calls Try.prog 35 #[v, .string ⟨n.toArray⟩] w (NewEnts w (withoutB l n)) := by
  obtain ⟨a, ca, rfl, hc, hm, HA0⟩ := id hv
  clear HA0
  go_enter Try.func35, Try.ntmps35
  go_wp2_with fail; refine (around_any l n _ _ hv hs hl).mono ?_; rintro e w1 ⟨x, y, rfl, hx, hy, hb⟩
  have hp := parts_two hx hy 34
  have hb2 : Below w.heap.size w (w1.alloc (.cells #[x, y] 34)) := hb.alloc hb.size _
  have hfl : [aheadB l n, behindB l n].flatten = withoutB l n := by simp [withoutB]
  have hle := without_len l n
  have hsw := without_short n hsh
  obtain ⟨a1, c1, rfl, _, _, _⟩ := hx
  obtain ⟨a2, c2, rfl, _, _, _⟩ := hy
  go_wp2_with fail
  refine (join_any _ _ _ hp (by simp) (by rw [hfl]; omega) (by rw [hfl]; exact hsw)).mono ?_
  rintro e w2 ⟨g, rfl, hg, hB, hb3⟩
  rw [hfl] at hB ⊢
  go_wp2
  go_ret
  exact ⟨g, rfl, Nat.le_trans hb2.size hg, hB, hb2.trans (hb3.mono hb2.size)⟩

set_option maxHeartbeats 1000000 in
theorem With_any (l : List Ent) (n : List UInt8) (i : Int) (v : Value) (w : World) (hv : Ents w v l) (hs : sortP l) (hl : l.length ≤ 999999) (hsh : shortP 100000000 l) (hn : n.length ≤ 100000000) :
    Calls Try.prog 33 #[v, .string ⟨n.toArray⟩, .int .i64 i] w (NewEnts w (withB l n i)) := by
  obtain ⟨a, ca, rfl, hc, hm, HA0⟩ := id hv
  clear HA0
  go_enter Try.func33, Try.ntmps33
  go_wp2_with fail; refine (around_any l n _ _ hv hs (by omega)).mono ?_; rintro e w1 ⟨x, y, rfl, hx, hy, hb⟩
  have hbo : Below w1.heap.size w1 (w1.alloc (.cells (entC (n, i)) 58)) := (Below.refl _ w1).alloc (Nat.le_refl _) _
  have hone : Ents (w1.alloc (.cells (entC (n, i)) 58)) (.slice (some ⟨w1.heap.size, 0, none⟩) 1 1) [(n, i)] := blk_ents (L := [(n, i)]) (Blk.new w1 58 (entC (n, i))) (by simp [maxLen])
  have hb1 := hb.trans (hbo.mono hb.size)
  have hp := parts_three (hx.below hbo) hone (hy.below hbo) 34 (w1.heap.size + 1) (by simp)
  have hb2 := hb1.alloc hb1.size (.cells #[x, .slice (some ⟨w1.heap.size, 0, none⟩) 1 1, y] 34)
  have hfl : [aheadB l n, [(n, i)], behindB l n].flatten = withB l n i := by simp [withB]
  have hle := with_len l n i
  have hsw := with_short i hsh hn
  obtain ⟨a1, c1, rfl, _, _, _⟩ := hx
  obtain ⟨a2, c2, rfl, _, _, _⟩ := hy
  go_wp2_with fail
  refine (join_any _ _ _ hp (by simp) (by rw [hfl]; omega) (by rw [hfl]; exact hsw)).mono ?_
  rintro e w2 ⟨g, rfl, hg, hB, hb3⟩
  rw [hfl] at hB ⊢
  go_wp2
  go_ret
  exact ⟨g, rfl, Nat.le_trans hb2.size hg, hB, hb2.trans (hb3.mono hb2.size)⟩

theorem infoT : (Try.prog.info? 9).map (fun i => (i.zero, i.size, i.bytes)) = some (some (.string ⟨#[]⟩), 1, 16) := by kernel_rfl

end Go.Proofs.Ytbdgcpimnkieiaa
