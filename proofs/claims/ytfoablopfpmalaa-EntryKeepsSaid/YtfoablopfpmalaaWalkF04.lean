/- Walks: With, Without, Names. -/
import Derived.Test.YtfoablopfpmalaaWalkD04
import Derived.Test.YtfoablopfpmalaaWalkE04
namespace Go.Proofs.Ytfoablopfpmalaa
open Go.RowKit

theorem parts_two {w : World} {x y : Value} {A B : List Ent} (hx : Ents w x A) (hy : Ents w y B) (t : TypeId) : Parts (w.alloc (.cells #[x, y] t)) (.slice (some ⟨w.heap.size, 0, none⟩) 2 2) [A, B] := by
  have hb : Below w.heap.size w (w.alloc (.cells #[x, y] t)) := (Below.refl _ w).alloc (Nat.le_refl _) _
  have hB := Blk.new w t #[x, y]
  refine ⟨_, 2, rfl, fun _ => ⟨w.heap.size, 0, rfl, hB.lt, fun i hi => ?_⟩⟩
  have : i = 0 ∨ i = 1 := by simp at hi; omega
  rcases this with rfl | rfl
  · exact ⟨x, (hB.cell 0).trans rfl, hx.below hb⟩
  · exact ⟨y, (hB.cell 1).trans rfl, hy.below hb⟩
theorem parts_three {w : World} {x y z : Value} {A B C : List Ent} (hx : Ents w x A) (hy : Ents w y B) (hz : Ents w z C) (t : TypeId) (n : Nat) (hn : n = w.heap.size) : Parts (w.alloc (.cells #[x, y, z] t)) (.slice (some ⟨n, 0, none⟩) 3 3) [A, B, C] := by
  subst hn
  have hb : Below w.heap.size w (w.alloc (.cells #[x, y, z] t)) := (Below.refl _ w).alloc (Nat.le_refl _) _
  have hB := Blk.new w t #[x, y, z]
  refine ⟨_, 3, rfl, fun _ => ⟨w.heap.size, 0, rfl, hB.lt, fun i hi => ?_⟩⟩
  have : i = 0 ∨ i = 1 ∨ i = 2 := by simp at hi; omega
  rcases this with rfl | rfl | rfl
  · exact ⟨x, (hB.cell 0).trans rfl, hx.below hb⟩
  · exact ⟨y, (hB.cell 1).trans rfl, hy.below hb⟩
  · exact ⟨z, (hB.cell 2).trans rfl, hz.below hb⟩

set_option maxHeartbeats 1000000 in
theorem Without_any (l : List Ent) (n : List UInt8) (v : Value) (w : World) (hv : Ents w v l) (hs : sortP l) (hl : l.length ≤ 1000000) (hsh : shortP 100000000 l) :
    Calls Try.prog 16 #[v, .string ⟨n.toArray⟩] w (NewEnts w (withoutB l n)) := by
  obtain ⟨a, ca, rfl, hc, hm, HA0⟩ := id hv
  clear HA0
  go_enter Try.func16, Try.ntmps16
  go_wp2_with fail; refine (around_any l n _ _ hv hs hl).mono ?_; rintro e w1 ⟨x, y, rfl, hx, hy, hb⟩
  have hp := parts_two hx hy 22
  have hb2 : Below w.heap.size w (w1.alloc (.cells #[x, y] 22)) := hb.alloc hb.size _
  have hfl : [aheadB l n, behindB l n].flatten = withoutB l n := by simp [withoutB]
  have hle := without_len l n
  have hsw := without_short n hsh
  obtain ⟨a1, c1, rfl, _, _, _⟩ := hx
  obtain ⟨a2, c2, rfl, _, _, _⟩ := hy
  go_wp2_with fail
  refine (join_any _ _ _ hp (by simp) (by rw [hfl]; omega) (by rw [hfl]; exact hsw)).mono ?_
  rintro e w2 ⟨g, rfl, hg, hB, hb3⟩
  rw [hfl] at hB ⊢
  go_wp2
  go_ret
  exact ⟨g, rfl, Nat.le_trans hb2.size hg, hB, hb2.trans (hb3.mono hb2.size)⟩

set_option maxHeartbeats 1000000 in
theorem With_any (l : List Ent) (n : List UInt8) (i : Int) (v : Value) (w : World) (hv : Ents w v l) (hs : sortP l) (hl : l.length ≤ 999999) (hsh : shortP 100000000 l) (hn : n.length ≤ 100000000) :
    Calls Try.prog 19 #[v, .string ⟨n.toArray⟩, .int .i64 i] w (NewEnts w (withB l n i)) := by
  obtain ⟨a, ca, rfl, hc, hm, HA0⟩ := id hv
  clear HA0
  go_enter Try.func19, Try.ntmps19
  go_wp2_with fail; refine (around_any l n _ _ hv hs (by omega)).mono ?_; rintro e w1 ⟨x, y, rfl, hx, hy, hb⟩
  have hbo : Below w1.heap.size w1 (w1.alloc (.cells (entC (n, i)) 30)) := (Below.refl _ w1).alloc (Nat.le_refl _) _
  have hone : Ents (w1.alloc (.cells (entC (n, i)) 30)) (.slice (some ⟨w1.heap.size, 0, none⟩) 1 1) [(n, i)] := blk_ents (L := [(n, i)]) (Blk.new w1 30 (entC (n, i))) (by simp [maxLen])
  have hb1 := hb.trans (hbo.mono hb.size)
  have hp := parts_three (hx.below hbo) hone (hy.below hbo) 22 (w1.heap.size + 1) (by simp)
  have hb2 := hb1.alloc hb1.size (.cells #[x, .slice (some ⟨w1.heap.size, 0, none⟩) 1 1, y] 22)
  have hfl : [aheadB l n, [(n, i)], behindB l n].flatten = withB l n i := by simp [withB]
  have hle := with_len l n i
  have hsw := with_short i hsh hn
  obtain ⟨a1, c1, rfl, _, _, _⟩ := hx
  obtain ⟨a2, c2, rfl, _, _, _⟩ := hy
  go_wp2_with fail
  refine (join_any _ _ _ hp (by simp) (by rw [hfl]; omega) (by rw [hfl]; exact hsw)).mono ?_
  rintro e w2 ⟨g, rfl, hg, hB, hb3⟩
  rw [hfl] at hB ⊢
  go_wp2
  go_ret
  exact ⟨g, rfl, Nat.le_trans hb2.size hg, hB, hb2.trans (hb3.mono hb2.size)⟩

theorem infoT : (Try.prog.info? 9).map (fun i => (i.zero, i.size, i.bytes)) = some (some (.string ⟨#[]⟩), 1, 16) := by kernel_rfl

set_option maxHeartbeats 1000000 in
theorem Names_any (l : List Ent) (v : Value) (w : World) (hv : Ents w v l) (hl : l.length ≤ 1000000) (hsh : shortP 100000000 l) :
    Calls Try.prog 14 #[v] w fun e w' => ∃ x, e = .returned x ∧ Strs w' x (l.map (·.1)) ∧ Below w.heap.size w w' := by
  obtain ⟨a, ca, rfl, hc, hm, HA0⟩ := id hv
  have HA := Lib.hid HA0
  have HSH := Lib.hid hsh
  clear HA0 hsh hv
  obtain ⟨i0, hi, hz0, hz1, hz2⟩ := info_parts infoT
  go_enter Try.func14, Try.ntmps14
  go_wp2_with (at_make; refine wpList_make_full _ rfl _ _ 27 rfl w.heap.size 9 i0 (.string ⟨#[]⟩) 1 Try.underlying27 hi hz0 hz1 _ _ _ _ l.length rfl rfl rfl rfl (by rw [hz2]; omega) (by unfold maxLen; omega) (Nat.le_refl _) ?_; intro w1 hown hgr)
  have hb1 := (Below.refl w.heap.size w).grown hgr (Nat.le_refl _) (fun k hk => by cases hk)
  have hblk : ∃ Z : List Value, Z.length = l.length ∧ Blk w1 w.heap.size 9 Z.toArray := by
    rcases hown.2 with ⟨h', _⟩ | ⟨g', cap', cur, h', _, hh, h1, h2, h3, h4⟩
    · simp at h'
    · simp only [Value.slice.injEq, Option.some.injEq, Addr.mk.injEq, and_true, true_and] at h'
      obtain ⟨rfl, rfl⟩ := h'
      exact ⟨cur.toList, by simpa using h3, by simpa [Blk] using hh⟩
  clear hown hgr
  generalize hgg : w.heap.size = g at hblk ⊢
  have hBg : w.heap.size ≤ g := by omega
  have HGG := Lib.hid hgg
  clear hgg
  go_wp2_with fail
  go_loopw [11] (fun s11 wr => ∃ k : Nat, k ≤ l.length ∧ s11 = .int .i64 k ∧ Below w.heap.size w wr ∧ Aside (∃ Z : List Value, Z.length = l.length - k ∧ Blk wr g 9 (strsV ((l.take k).map (·.1)) ++ Z).toArray)) (fun s11 _ => l.length - (intOf s11).toNat)
  case atStart =>
    obtain ⟨Z, hZ, hB⟩ := hblk
    exact ⟨0, Nat.zero_le _, rfl, hb1, ⟨Z, hZ, by simpa [strsV] using hB⟩⟩
  case round =>
    clear hblk
    obtain ⟨k, hk, rfl, hbw, HB⟩ := hrel
    by_cases hlt : k < l.length
    · obtain ⟨b, o, rfl, hb, hcl⟩ := HA.out (by omega)
      have c1 : wr.cell? ⟨b, o + k * 2, none⟩ = some (.string ⟨l[k].1.toArray⟩) := (hbw.cell (p := ⟨b, o + k * 2, none⟩) hb).trans (hcl k hlt).1
      have c2 : wr.cell? ⟨b, o + k * 2 + 1, none⟩ = some (.int .i64 l[k].2) := (hbw.cell (p := ⟨b, o + k * 2 + 1, none⟩) hb).trans (hcl k hlt).2
      clear hcl
      have hks := HSH.out _ (List.getElem_mem hlt)
      have x1 := Blk.new wr 30 (entC l[k])
      have hbo : Below wr.heap.size wr (wr.alloc (.cells (entC l[k]) 30)) := (Below.refl _ wr).alloc (Nat.le_refl _) _
      go_wp2_with fail
      refine (Clone_any l[k].1 _ hks).mono ?_
      rintro e w2 ⟨rfl, b2⟩
      replace hbo := hbo.trans (b2.mono hbo.size)
      have hb2 := hbw.trans (hbo.mono hbw.size)
      obtain ⟨Z, hZ, hZB⟩ := HB.out
      obtain ⟨z, Z, rfl⟩ : ∃ z Z', Z = z :: Z' := by cases Z with | nil => simp at hZ; omega | cons z Z' => exact ⟨z, Z', rfl⟩
      have hB2 := hZB.next hbo
      have hpl : (strsV ((l.take k).map (·.1))).length = k := by simp [strsV]; omega
      have d1 : w2.cell? ⟨g, k, none⟩ = some z := by rw [hB2.cell, List.getElem?_toArray, List.getElem?_append_right (by omega), hpl, Nat.sub_self]; rfl
      have d2 : w2.frozen? ⟨g, k, none⟩ = false := hB2.frozen _
      have HS : Hid (∃ Z : List Value, Z.length = l.length - (k + 1) ∧ Blk (w2.setCell ⟨g, k, none⟩ (.string ⟨l[k].1.toArray⟩)) g 9 (strsV ((l.take (k + 1)).map (·.1)) ++ Z).toArray) := by
        refine ⟨Z, by simp at hZ; omega, ?_⟩
        have h1 := hB2.set k (.string ⟨l[k].1.toArray⟩)
        have h2 : (strsV ((l.take k).map (·.1)) ++ z :: Z).toArray.setIfInBounds k (.string ⟨l[k].1.toArray⟩) = (strsV ((l.take (k + 1)).map (·.1)) ++ Z).toArray := by
          rw [List.setIfInBounds_toArray, List.set_append_right _ _ (by omega), hpl, Nat.sub_self, List.set_cons_zero, List.take_succ_eq_append_getElem hlt]
          simp only [strsV, List.map_append, List.map_cons, List.map_nil, List.append_assoc, List.cons_append, List.nil_append]
        rw [h2] at h1; exact h1
      have hb3 : Below w.heap.size w (w2.setCell ⟨g, k, none⟩ (.string ⟨l[k].1.toArray⟩)) := hb2.setCell hBg _
      clear c1 c2 HB hZ hZB hB2 hpl x1
      go_wp2
      go_roundw
      case rel => exact ⟨k + 1, by omega, by go_num, hb3, HS.out⟩
      case measure => simp [intOf]; omega
    · obtain rfl : k = l.length := by omega
      have HR : Hid (Strs wr (.slice (some ⟨g, 0, none⟩) l.length l.length) (l.map (·.1))) := by
        obtain ⟨Z, hZ, hZB⟩ := HB.out
        obtain rfl : Z = [] := List.eq_nil_of_length_eq_zero (by omega)
        rw [List.append_nil, List.take_length] at hZB
        refine ⟨_, l.length, by simp, by simp [maxLen]; omega, fun _ => ⟨g, 0, rfl, hZB.lt, fun i hi => ?_⟩⟩
        rw [hZB.cell, Nat.zero_add]
        simp at hi
        simp [strsV, List.getElem?_eq_getElem hi]
      go_wp2
      go_ret
      exact ⟨_, rfl, HR.out, hbw⟩
end Go.Proofs.Ytfoablopfpmalaa
