import Derived.Test.YtolbhjjcabiabaaGreatDoorQWalkP20
set_option linter.unusedVariables false
set_option linter.unusedSimpArgs false
/- Walks: the program's Read. -/
set_option linter.unusedVariables false
set_option linter.unusedSimpArgs false
namespace Go.Proofs.YtolbhjjcabiabaaGreatDoor
open Go.RowKit

set_option maxHeartbeats 4000000 in
set_option maxRecDepth 100000 in
theorem Read20_any (s : List UInt8) (w : World) (hL : Laid20 w) (hs : s.length ≤ 100000) : Calls Tryz.prog 10 #[.string ⟨s.toArray⟩] w fun e w' => e = .returned (.tuple #[.agg (opC ((readO s).getD zeroO)), .bool (readO s).isSome]) ∧ Below w.heap.size w w' := by
  have bR := Blk.new w 23 (opC zeroO)
  have hB := Joins.below_alloc1 w (.cells (opC zeroO) 23)
  have hk := kindsByWord_any _ (hL.next hB).2.1
  have hRd := fun W bm h1 h2 => read_any s bm W h1 h2 hs
  generalize (readO s).isSome = is at *
  generalize (readO s).getD zeroO = o at *
  obtain ⟨ok, os, oa, ob, od⟩ := o
  go_enter Tryz.func10, Tryz.ntmps10
  go_wp2_with fail
  refine hk.mono ?_
  rintro e w1 ⟨rfl, hM, b1⟩
  have hB1 := hB.trans (b1.mono hB.size)
  simp only [World.size_alloc] at hM
  go_wp2_with fail
  refine (hRd w1 (w.heap.size + 1) (hL.next hB1) hM).mono ?_
  rintro e w2 ⟨rfl, b2⟩
  have hB2 := hB1.trans (b2.mono hB1.size)
  have bR2 := (bR.next b1).next b2
  clear hk hRd hM


  obtain ⟨r0, r1, r2, r3, r4⟩ := bR2.five
  have e0 := bR2.frozen 0
  have e1 := bR2.frozen 1
  have e2 := bR2.frozen 2
  have e3 := bR2.frozen 3
  have e4 := bR2.frozen 4
  obtain ⟨W', hW', hb5, hg5⟩ := bR2.putFive (.int .i64 ok) (.int .i64 os) (.string ⟨oa.toArray⟩) (.string ⟨ob.toArray⟩) (.string ⟨od.toArray⟩)
  have hbl := grown_below20 hB2 hg5 (Nat.le_refl _) (Nat.le_refl _)
  go_wp2
  obtain ⟨y0, y1, y2, y3, y4⟩ := hb5.five
  refine bodyPost_ret (v := .tuple #[.agg (opC ⟨ok, os, oa, ob, od⟩), .bool is]) (by simp [results, Tryz.f10, go_sem, y0, y1, y2, y3, y4]) rfl ?_
  exact ⟨rfl, hbl⟩
end Go.Proofs.YtolbhjjcabiabaaGreatDoor
