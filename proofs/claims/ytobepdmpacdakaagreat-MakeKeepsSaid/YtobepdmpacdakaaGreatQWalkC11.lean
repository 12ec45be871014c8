/- Walks: the document's Mkdir, Create, Symlink. -/
import Derived.Test.YtobepdmpacdakaaGreatQWalkB11
set_option linter.unusedVariables false
set_option linter.unusedSimpArgs false
namespace Go.Proofs.YtobepdmpacdakaaGreat
open Go.RowKit

set_option maxHeartbeats 4000000 in
theorem refMkdir_any (mi mb nx : Int) (l : List Nd) (base p : List UInt8) (v : Value) (w : World) (hv : Nds w v l) (hf : Fit l) (hb : base.length ≤ 100000) (hp : p.length ≤ 100000) (hsn : (seekP l base p false).1.name.length ≤ 100000) (hnx : -4611686018427387904 ≤ nx ∧ nx ≤ 4611686018427387904) :
    Calls Tryz.prog 12 #[.agg (fsC mi mb nx v), .string ⟨base.toArray⟩, .string ⟨p.toArray⟩] w fun e w' => ∃ y ev, e = .returned (.tuple #[.agg (fsC mi mb (putF mi mb nx l base p 2 [] 0 ev).1.1 y), .int .i64 (putF mi mb nx l base p 2 [] 0 ev).2]) ∧ MadeFs w v l w' y (putF mi mb nx l base p 2 [] 0 ev).1.2 ∧ Below w.heap.size w w' := by
  obtain ⟨a, ca, rfl⟩ := nds_slice hv
  have bF := (Blk.new w 24 (fsC mi mb nx (.slice a l.length ca))).alloc (.cells (fsC 0 0 0 (.slice none 0 0)) 24)
  have bR := Blk.new (w.alloc (.cells (fsC mi mb nx (.slice a l.length ca)) 24)) 24 (fsC 0 0 0 (.slice none 0 0))
  have hB := ((Below.refl w.heap.size w).alloc (Nat.le_refl _) (.cells (fsC mi mb nx (.slice a l.length ca)) 24)).alloc (by simp) (.cells (fsC 0 0 0 (.slice none 0 0)) 24)
  simp only [World.size_alloc] at bR
  have hNV := hv.below hB
  have hPt := refPut11_any mi mb nx 2 0 l base p [] _ _ hNV hf hb hp (by decide) hsn hnx
  clear hv
  obtain ⟨⟨p0, p1, p2, p3⟩, _⟩ := bF.four
  go_enter Tryz.func12, Tryz.ntmps12
  go_wp2_with fail
  refine hPt.mono ?_
  rintro e w3 ⟨y, ev, rfl, hN, b3⟩
  obtain ⟨ay, cy, rfl⟩ := nds_slice (hN.now hNV b3)
  generalize hZ : putF mi mb nx l base p 2 [] 0 ev = Z at *
  obtain ⟨⟨z1, z2⟩, z3⟩ := Z
  dsimp only at hN
  have HZ := Lib.hid hZ
  have hRl := bR.lt
  have hsz := hB.size
  clear hPt hZ p0 p1 p2 p3
  have bR3 := bR.next b3
  have hB3 := hB.trans (b3.mono hB.size)
  obtain ⟨⟨r0, r1, r2, r3⟩, e0, e1, e2, e3⟩ := bR3.four
  obtain ⟨W', hW', hb4, hg4⟩ := bR3.put4 (.int .i64 mi) (.int .i64 mb) (.int .i64 z1) (.slice ay z2.length cy)
  have hbl := below_grown hB3 hg4 (Nat.le_refl _) (by omega)
  have hM := hN.up (w := w) (w' := W') hsz (Kept.grown hg4 hRl)
  go_wp2
  obtain ⟨⟨y0, y1, y2, y3⟩, _⟩ := hb4.four
  refine bodyPost_ret (v := .tuple #[.agg (fsC mi mb z1 (.slice ay z2.length cy)), .int .i64 z3]) (by simp [results, Tryz.f12, go_sem, y0, y1, y2, y3]) rfl ?_
  exact ⟨_, ev, by rw [HZ.out], by rw [HZ.out]; exact hM, hbl⟩

set_option maxHeartbeats 4000000 in
theorem refCreate_any (mi mb nx : Int) (l : List Nd) (base p data : List UInt8) (v : Value) (w : World) (hv : Nds w v l) (hf : Fit l) (hb : base.length ≤ 100000) (hp : p.length ≤ 100000) (hdl : data.length ≤ 100000) (hsn : (seekP l base p false).1.name.length ≤ 100000) (hnx : -4611686018427387904 ≤ nx ∧ nx ≤ 4611686018427387904) :
    Calls Tryz.prog 15 #[.agg (fsC mi mb nx v), .string ⟨base.toArray⟩, .string ⟨p.toArray⟩, .string ⟨data.toArray⟩] w fun e w' => ∃ y ev, e = .returned (.tuple #[.agg (fsC mi mb (putF mi mb nx l base p 1 data 4 ev).1.1 y), .int .i64 (putF mi mb nx l base p 1 data 4 ev).2]) ∧ MadeFs w v l w' y (putF mi mb nx l base p 1 data 4 ev).1.2 ∧ Below w.heap.size w w' := by
  obtain ⟨a, ca, rfl⟩ := nds_slice hv
  have bF := (Blk.new w 24 (fsC mi mb nx (.slice a l.length ca))).alloc (.cells (fsC 0 0 0 (.slice none 0 0)) 24)
  have bR := Blk.new (w.alloc (.cells (fsC mi mb nx (.slice a l.length ca)) 24)) 24 (fsC 0 0 0 (.slice none 0 0))
  have hB := ((Below.refl w.heap.size w).alloc (Nat.le_refl _) (.cells (fsC mi mb nx (.slice a l.length ca)) 24)).alloc (by simp) (.cells (fsC 0 0 0 (.slice none 0 0)) 24)
  simp only [World.size_alloc] at bR
  have hNV := hv.below hB
  have hPt := refPut11_any mi mb nx 1 4 l base p data _ _ hNV hf hb hp hdl hsn hnx
  clear hv
  obtain ⟨⟨p0, p1, p2, p3⟩, _⟩ := bF.four
  go_enter Tryz.func15, Tryz.ntmps15
  go_wp2_with fail
  refine hPt.mono ?_
  rintro e w3 ⟨y, ev, rfl, hN, b3⟩
  obtain ⟨ay, cy, rfl⟩ := nds_slice (hN.now hNV b3)
  generalize hZ : putF mi mb nx l base p 1 data 4 ev = Z at *
  obtain ⟨⟨z1, z2⟩, z3⟩ := Z
  dsimp only at hN
  have HZ := Lib.hid hZ
  have hRl := bR.lt
  have hsz := hB.size
  clear hPt hZ p0 p1 p2 p3
  have bR3 := bR.next b3
  have hB3 := hB.trans (b3.mono hB.size)
  obtain ⟨⟨r0, r1, r2, r3⟩, e0, e1, e2, e3⟩ := bR3.four
  obtain ⟨W', hW', hb4, hg4⟩ := bR3.put4 (.int .i64 mi) (.int .i64 mb) (.int .i64 z1) (.slice ay z2.length cy)
  have hbl := below_grown hB3 hg4 (Nat.le_refl _) (by omega)
  have hM := hN.up (w := w) (w' := W') hsz (Kept.grown hg4 hRl)
  go_wp2
  obtain ⟨⟨y0, y1, y2, y3⟩, _⟩ := hb4.four
  refine bodyPost_ret (v := .tuple #[.agg (fsC mi mb z1 (.slice ay z2.length cy)), .int .i64 z3]) (by simp [results, Tryz.f15, go_sem, y0, y1, y2, y3]) rfl ?_
  exact ⟨_, ev, by rw [HZ.out], by rw [HZ.out]; exact hM, hbl⟩
end Go.Proofs.YtobepdmpacdakaaGreat
