/- Walks: what the program does a call by: function values, held in a map. -/
import Derived.Maps.OwnSet
import Derived.Test.YtkdmfeikikmiiaaGreatVWalkP14
import Derived.Test.YtkdmfeikikmiiaaGreatVWalkP13
import Derived.Test.YtkdmfeikikmiiaaGreatVWalkP12
import Derived.Test.YtkdmfeikikmiiaaGreatVWalkP11
import Derived.Test.YtkdmfeikikmiiaaGreatVMWalkF07
set_option linter.unusedVariables false
set_option linter.unusedSimpArgs false
namespace Go.Proofs.YtkdmfeikikmiiaaGreat
open Go.RowKit
/-- What a call that was done has left: the new file system, its error. -/
def DoneC (mi mb nx : Int) (l : List Nd) (base : List UInt8) (c : CallV) (v : Value) (w : World) (e : Ending) (w' : World) : Prop :=
  ∃ y ev e1 e2, e = .returned (.tuple #[.agg (fsC mi mb (doF mi mb (nx, l) base c ev e1 e2).1.1 y), .int .i64 (doF mi mb (nx, l) base c ev e1 e2).2]) ∧ MadeFs w v l w' y (doF mi mb (nx, l) base c ev e1 e2).1.2 ∧ Below w.heap.size w w'
set_option maxHeartbeats 8000000 in
set_option maxRecDepth 100000 in
theorem clo1_any (mi mb nx : Int) (l : List Nd) (base A B D : List UInt8) (v : Value) (w : World) (b : Nat) (hv : Nds w v l) (hok : okB mi mb nx l = true) (hnx : nx < 1099511627776) (hb : base.length ≤ 20000) (hca : A.length ≤ 300) (hcb : B.length ≤ 300) (hcd : D.length ≤ 300) (hcell : w.cell? ⟨b, 0, none⟩ = some (.func (.func 36) #[] #[])) (hlt : b < w.heap.size) :
    Calls Tryz.prog 64 #[.agg (fsC mi mb nx v), .string ⟨base.toArray⟩, .agg (callC ⟨1, A, B, D⟩), .pointer (some ⟨b, 0, none⟩)] w (DoneC mi mb nx l base ⟨1, A, B, D⟩ v w) := by
  obtain ⟨a, ca, rfl⟩ := nds_slice hv
  have bF := ((Blk.new w 28 (fsC mi mb nx (.slice a l.length ca))).alloc (.cells (callC ⟨1, A, B, D⟩) 44)).alloc (.cells (fsC 0 0 0 (.slice none 0 0)) 28)
  have bC := (Blk.new (w.alloc (.cells (fsC mi mb nx (.slice a l.length ca)) 28)) 44 (callC ⟨1, A, B, D⟩)).alloc (.cells (fsC 0 0 0 (.slice none 0 0)) 28)
  have bR := Blk.new ((w.alloc (.cells (fsC mi mb nx (.slice a l.length ca)) 28)).alloc (.cells (callC ⟨1, A, B, D⟩) 44)) 28 (fsC 0 0 0 (.slice none 0 0))
  have hB : Below w.heap.size w (((w.alloc (.cells (fsC mi mb nx (.slice a l.length ca)) 28)).alloc (.cells (callC ⟨1, A, B, D⟩) 44)).alloc (.cells (fsC 0 0 0 (.slice none 0 0)) 28)) := (((Below.refl _ w).alloc (Nat.le_refl _) _).alloc (by simp) _).alloc (by simp; omega) _
  simp only [World.size_alloc] at bC bR
  have hcl := (hB.cell (p := ⟨b, 0, none⟩) hlt).trans hcell
  have nV := hv.below hB
  have hK := fun W hW => Mkdir_any mi mb nx l base A (.slice a l.length ca) W hW hok hnx hb (by omega)
  clear hv hok hnx hb hca hcb hcd
  obtain ⟨⟨p0, p1, p2, p3⟩, _⟩ := bF.four
  obtain ⟨⟨c0, c1, c2, c3⟩, _⟩ := bC.four
  dsimp only at c0 c1 c2 c3
  go_enter Tryz.func64, Tryz.ntmps64
  go_wp2_with fail
  refine (hK _ nV).mono ?_
  rintro e w3 ⟨y, ev, rfl, hN, b3⟩
  obtain ⟨ay, cy, rfl⟩ := nds_slice (hN.now nV b3)
  have HN : Hid (doF mi mb (nx, l) base ⟨1, A, B, D⟩ ev (.slice none 0 0) (.slice none 0 0) = putF mi mb nx l base A 2 [] 0 ev) := by show _ = _; unfold doF; rfl
  generalize putF mi mb nx l base A 2 [] 0 ev = Z at *
  obtain ⟨⟨z1, z2⟩, z3⟩ := Z
  dsimp only at hN HN
  have hRl := bR.lt
  have hsz := hB.size
  clear hK p0 p1 p2 p3 c0 c1 c2 c3 hcl
  have bR3 := bR.next b3
  have hB3 := hB.trans (b3.mono hB.size)
  obtain ⟨⟨r0, r1, r2, r3⟩, e0, e1', e2', e3⟩ := bR3.four
  obtain ⟨W', hW', hb4, hg4⟩ := bR3.put4 (.int .i64 mi) (.int .i64 mb) (.int .i64 z1) (.slice ay z2.length cy)
  have hbl := below_grown hB3 hg4 (Nat.le_refl _) (by omega)
  have hM := hN.up (w := w) (w' := W') hsz (Kept.grown hg4 hRl)
  go_wp2
  obtain ⟨⟨y0, y1, y2, y3⟩, _⟩ := hb4.four
  refine bodyPost_ret (v := .tuple #[.agg (fsC mi mb z1 (.slice ay z2.length cy)), .int .i64 z3]) (by simp [results, Tryz.f64, go_sem, y0, y1, y2, y3]) rfl ?_
  exact ⟨_, ev, .slice none 0 0, .slice none 0 0, by rw [HN.out], by rw [HN.out]; exact hM, hbl⟩
set_option maxHeartbeats 8000000 in
set_option maxRecDepth 100000 in
theorem clo2_any (mi mb nx : Int) (l : List Nd) (base A B D : List UInt8) (v : Value) (w : World) (b : Nat) (hv : Nds w v l) (hok : okB mi mb nx l = true) (hnx : nx < 1099511627776) (hb : base.length ≤ 20000) (hca : A.length ≤ 300) (hcb : B.length ≤ 300) (hcd : D.length ≤ 300) (hcell : w.cell? ⟨b, 0, none⟩ = some (.func (.func 38) #[] #[])) (hlt : b < w.heap.size) :
    Calls Tryz.prog 68 #[.agg (fsC mi mb nx v), .string ⟨base.toArray⟩, .agg (callC ⟨2, A, B, D⟩), .pointer (some ⟨b, 0, none⟩)] w (DoneC mi mb nx l base ⟨2, A, B, D⟩ v w) := by
  obtain ⟨a, ca, rfl⟩ := nds_slice hv
  have bF := ((Blk.new w 28 (fsC mi mb nx (.slice a l.length ca))).alloc (.cells (callC ⟨2, A, B, D⟩) 44)).alloc (.cells (fsC 0 0 0 (.slice none 0 0)) 28)
  have bC := (Blk.new (w.alloc (.cells (fsC mi mb nx (.slice a l.length ca)) 28)) 44 (callC ⟨2, A, B, D⟩)).alloc (.cells (fsC 0 0 0 (.slice none 0 0)) 28)
  have bR := Blk.new ((w.alloc (.cells (fsC mi mb nx (.slice a l.length ca)) 28)).alloc (.cells (callC ⟨2, A, B, D⟩) 44)) 28 (fsC 0 0 0 (.slice none 0 0))
  have hB : Below w.heap.size w (((w.alloc (.cells (fsC mi mb nx (.slice a l.length ca)) 28)).alloc (.cells (callC ⟨2, A, B, D⟩) 44)).alloc (.cells (fsC 0 0 0 (.slice none 0 0)) 28)) := (((Below.refl _ w).alloc (Nat.le_refl _) _).alloc (by simp) _).alloc (by simp; omega) _
  simp only [World.size_alloc] at bC bR
  have hcl := (hB.cell (p := ⟨b, 0, none⟩) hlt).trans hcell
  have nV := hv.below hB
  have hK := fun W hW => Create_any mi mb nx l base A D (.slice a l.length ca) W hW hok hnx hb (by omega) (by omega)
  clear hv hok hnx hb hca hcb hcd
  obtain ⟨⟨p0, p1, p2, p3⟩, _⟩ := bF.four
  obtain ⟨⟨c0, c1, c2, c3⟩, _⟩ := bC.four
  dsimp only at c0 c1 c2 c3
  go_enter Tryz.func68, Tryz.ntmps68
  go_wp2_with fail
  refine (hK _ nV).mono ?_
  rintro e w3 ⟨y, ev, rfl, hN, b3⟩
  obtain ⟨ay, cy, rfl⟩ := nds_slice (hN.now nV b3)
  have HN : Hid (doF mi mb (nx, l) base ⟨2, A, B, D⟩ ev (.slice none 0 0) (.slice none 0 0) = putF mi mb nx l base A 1 D 4 ev) := by show _ = _; unfold doF; rfl
  generalize putF mi mb nx l base A 1 D 4 ev = Z at *
  obtain ⟨⟨z1, z2⟩, z3⟩ := Z
  dsimp only at hN HN
  have hRl := bR.lt
  have hsz := hB.size
  clear hK p0 p1 p2 p3 c0 c1 c2 c3 hcl
  have bR3 := bR.next b3
  have hB3 := hB.trans (b3.mono hB.size)
  obtain ⟨⟨r0, r1, r2, r3⟩, e0, e1', e2', e3⟩ := bR3.four
  obtain ⟨W', hW', hb4, hg4⟩ := bR3.put4 (.int .i64 mi) (.int .i64 mb) (.int .i64 z1) (.slice ay z2.length cy)
  have hbl := below_grown hB3 hg4 (Nat.le_refl _) (by omega)
  have hM := hN.up (w := w) (w' := W') hsz (Kept.grown hg4 hRl)
  go_wp2
  obtain ⟨⟨y0, y1, y2, y3⟩, _⟩ := hb4.four
  refine bodyPost_ret (v := .tuple #[.agg (fsC mi mb z1 (.slice ay z2.length cy)), .int .i64 z3]) (by simp [results, Tryz.f68, go_sem, y0, y1, y2, y3]) rfl ?_
  exact ⟨_, ev, .slice none 0 0, .slice none 0 0, by rw [HN.out], by rw [HN.out]; exact hM, hbl⟩
set_option maxHeartbeats 8000000 in
set_option maxRecDepth 100000 in
theorem clo3_any (mi mb nx : Int) (l : List Nd) (base A B D : List UInt8) (v : Value) (w : World) (b : Nat) (hv : Nds w v l) (hok : okB mi mb nx l = true) (hnx : nx < 1099511627776) (hb : base.length ≤ 20000) (hca : A.length ≤ 300) (hcb : B.length ≤ 300) (hcd : D.length ≤ 300) (hcell : w.cell? ⟨b, 0, none⟩ = some (.func (.func 39) #[] #[])) (hlt : b < w.heap.size) :
    Calls Tryz.prog 68 #[.agg (fsC mi mb nx v), .string ⟨base.toArray⟩, .agg (callC ⟨3, A, B, D⟩), .pointer (some ⟨b, 0, none⟩)] w (DoneC mi mb nx l base ⟨3, A, B, D⟩ v w) := by
  obtain ⟨a, ca, rfl⟩ := nds_slice hv
  have bF := ((Blk.new w 28 (fsC mi mb nx (.slice a l.length ca))).alloc (.cells (callC ⟨3, A, B, D⟩) 44)).alloc (.cells (fsC 0 0 0 (.slice none 0 0)) 28)
  have bC := (Blk.new (w.alloc (.cells (fsC mi mb nx (.slice a l.length ca)) 28)) 44 (callC ⟨3, A, B, D⟩)).alloc (.cells (fsC 0 0 0 (.slice none 0 0)) 28)
  have bR := Blk.new ((w.alloc (.cells (fsC mi mb nx (.slice a l.length ca)) 28)).alloc (.cells (callC ⟨3, A, B, D⟩) 44)) 28 (fsC 0 0 0 (.slice none 0 0))
  have hB : Below w.heap.size w (((w.alloc (.cells (fsC mi mb nx (.slice a l.length ca)) 28)).alloc (.cells (callC ⟨3, A, B, D⟩) 44)).alloc (.cells (fsC 0 0 0 (.slice none 0 0)) 28)) := (((Below.refl _ w).alloc (Nat.le_refl _) _).alloc (by simp) _).alloc (by simp; omega) _
  simp only [World.size_alloc] at bC bR
  have hcl := (hB.cell (p := ⟨b, 0, none⟩) hlt).trans hcell
  have nV := hv.below hB
  have hK := fun W hW => Write13_any mi mb nx l base A D (.slice a l.length ca) W hW (ok_s hok) hb (by omega) (by omega)
  clear hv hok hnx hb hca hcb hcd
  obtain ⟨⟨p0, p1, p2, p3⟩, _⟩ := bF.four
  obtain ⟨⟨c0, c1, c2, c3⟩, _⟩ := bC.four
  dsimp only at c0 c1 c2 c3
  go_enter Tryz.func68, Tryz.ntmps68
  go_wp2_with fail
  refine (hK _ nV).mono ?_
  rintro e w3 ⟨y, rfl, hN, b3⟩
  obtain ⟨ay, cy, rfl⟩ := nds_slice (hN.now nV b3)
  have HN : Hid (doF mi mb (nx, l) base ⟨3, A, B, D⟩ (.slice none 0 0) (.slice none 0 0) (.slice none 0 0) = ((nx, (writeF mi mb l base A D).1), (writeF mi mb l base A D).2)) := by show _ = _; unfold doF; rfl
  generalize writeF mi mb l base A D = Z at *
  obtain ⟨z2, z3⟩ := Z
  dsimp only at hN HN
  have hRl := bR.lt
  have hsz := hB.size
  clear hK p0 p1 p2 p3 c0 c1 c2 c3 hcl
  have bR3 := bR.next b3
  have hB3 := hB.trans (b3.mono hB.size)
  obtain ⟨⟨r0, r1, r2, r3⟩, e0, e1', e2', e3⟩ := bR3.four
  obtain ⟨W', hW', hb4, hg4⟩ := bR3.put4 (.int .i64 mi) (.int .i64 mb) (.int .i64 nx) (.slice ay z2.length cy)
  have hbl := below_grown hB3 hg4 (Nat.le_refl _) (by omega)
  have hM := hN.up (w := w) (w' := W') hsz (Kept.grown hg4 hRl)
  go_wp2
  obtain ⟨⟨y0, y1, y2, y3⟩, _⟩ := hb4.four
  refine bodyPost_ret (v := .tuple #[.agg (fsC mi mb nx (.slice ay z2.length cy)), .int .i64 z3]) (by simp [results, Tryz.f68, go_sem, y0, y1, y2, y3]) rfl ?_
  exact ⟨_, .slice none 0 0, .slice none 0 0, .slice none 0 0, by rw [HN.out], by rw [HN.out]; exact hM, hbl⟩
set_option maxHeartbeats 8000000 in
set_option maxRecDepth 100000 in
theorem clo4_any (mi mb nx : Int) (l : List Nd) (base A B D : List UInt8) (v : Value) (w : World) (hv : Nds w v l) (hok : okB mi mb nx l = true) (hnx : nx < 1099511627776) (hb : base.length ≤ 20000) (hca : A.length ≤ 300) (hcb : B.length ≤ 300) (hcd : D.length ≤ 300) :
    Calls Tryz.prog 40 #[.agg (fsC mi mb nx v), .string ⟨base.toArray⟩, .agg (callC ⟨4, A, B, D⟩)] w (DoneC mi mb nx l base ⟨4, A, B, D⟩ v w) := by
  obtain ⟨a, ca, rfl⟩ := nds_slice hv
  have bF := ((Blk.new w 28 (fsC mi mb nx (.slice a l.length ca))).alloc (.cells (callC ⟨4, A, B, D⟩) 44)).alloc (.cells (fsC 0 0 0 (.slice none 0 0)) 28)
  have bC := (Blk.new (w.alloc (.cells (fsC mi mb nx (.slice a l.length ca)) 28)) 44 (callC ⟨4, A, B, D⟩)).alloc (.cells (fsC 0 0 0 (.slice none 0 0)) 28)
  have bR := Blk.new ((w.alloc (.cells (fsC mi mb nx (.slice a l.length ca)) 28)).alloc (.cells (callC ⟨4, A, B, D⟩) 44)) 28 (fsC 0 0 0 (.slice none 0 0))
  have hB : Below w.heap.size w (((w.alloc (.cells (fsC mi mb nx (.slice a l.length ca)) 28)).alloc (.cells (callC ⟨4, A, B, D⟩) 44)).alloc (.cells (fsC 0 0 0 (.slice none 0 0)) 28)) := (((Below.refl _ w).alloc (Nat.le_refl _) _).alloc (by simp) _).alloc (by simp; omega) _
  simp only [World.size_alloc] at bC bR
  have nV := hv.below hB
  have hK := fun W hW => Symlink_any mi mb nx l base D A (.slice a l.length ca) W hW hok hnx hb (by omega) (by omega)
  clear hv hok hnx hb hca hcb hcd
  obtain ⟨⟨p0, p1, p2, p3⟩, _⟩ := bF.four
  obtain ⟨⟨c0, c1, c2, c3⟩, _⟩ := bC.four
  dsimp only at c0 c1 c2 c3
  go_enter Tryz.func40, Tryz.ntmps40
  go_wp2_with fail
  refine (hK _ nV).mono ?_
  rintro e w3 ⟨y, ev, rfl, hN, b3⟩
  obtain ⟨ay, cy, rfl⟩ := nds_slice (hN.now nV b3)
  have HN : Hid (doF mi mb (nx, l) base ⟨4, A, B, D⟩ ev (.slice none 0 0) (.slice none 0 0) = symF mi mb nx l base D A ev) := by show _ = _; unfold doF; rfl
  generalize symF mi mb nx l base D A ev = Z at *
  obtain ⟨⟨z1, z2⟩, z3⟩ := Z
  dsimp only at hN HN
  have hRl := bR.lt
  have hsz := hB.size
  clear hK p0 p1 p2 p3 c0 c1 c2 c3
  have bR3 := bR.next b3
  have hB3 := hB.trans (b3.mono hB.size)
  obtain ⟨⟨r0, r1, r2, r3⟩, e0, e1', e2', e3⟩ := bR3.four
  obtain ⟨W', hW', hb4, hg4⟩ := bR3.put4 (.int .i64 mi) (.int .i64 mb) (.int .i64 z1) (.slice ay z2.length cy)
  have hbl := below_grown hB3 hg4 (Nat.le_refl _) (by omega)
  have hM := hN.up (w := w) (w' := W') hsz (Kept.grown hg4 hRl)
  go_wp2
  obtain ⟨⟨y0, y1, y2, y3⟩, _⟩ := hb4.four
  refine bodyPost_ret (v := .tuple #[.agg (fsC mi mb z1 (.slice ay z2.length cy)), .int .i64 z3]) (by simp [results, Tryz.f40, go_sem, y0, y1, y2, y3]) rfl ?_
  exact ⟨_, ev, .slice none 0 0, .slice none 0 0, by rw [HN.out], by rw [HN.out]; exact hM, hbl⟩
set_option maxHeartbeats 8000000 in
set_option maxRecDepth 100000 in
theorem clo5_any (mi mb nx : Int) (l : List Nd) (base A B D : List UInt8) (v : Value) (w : World) (b : Nat) (hv : Nds w v l) (hok : okB mi mb nx l = true) (hnx : nx < 1099511627776) (hb : base.length ≤ 20000) (hca : A.length ≤ 300) (hcb : B.length ≤ 300) (hcd : D.length ≤ 300) (hcell : w.cell? ⟨b, 0, none⟩ = some (.func (.func 43) #[] #[])) (hlt : b < w.heap.size) :
    Calls Tryz.prog 75 #[.agg (fsC mi mb nx v), .string ⟨base.toArray⟩, .agg (callC ⟨5, A, B, D⟩), .pointer (some ⟨b, 0, none⟩)] w (DoneC mi mb nx l base ⟨5, A, B, D⟩ v w) := by
  obtain ⟨a, ca, rfl⟩ := nds_slice hv
  have bF := ((Blk.new w 28 (fsC mi mb nx (.slice a l.length ca))).alloc (.cells (callC ⟨5, A, B, D⟩) 44)).alloc (.cells (fsC 0 0 0 (.slice none 0 0)) 28)
  have bC := (Blk.new (w.alloc (.cells (fsC mi mb nx (.slice a l.length ca)) 28)) 44 (callC ⟨5, A, B, D⟩)).alloc (.cells (fsC 0 0 0 (.slice none 0 0)) 28)
  have bR := Blk.new ((w.alloc (.cells (fsC mi mb nx (.slice a l.length ca)) 28)).alloc (.cells (callC ⟨5, A, B, D⟩) 44)) 28 (fsC 0 0 0 (.slice none 0 0))
  have hB : Below w.heap.size w (((w.alloc (.cells (fsC mi mb nx (.slice a l.length ca)) 28)).alloc (.cells (callC ⟨5, A, B, D⟩) 44)).alloc (.cells (fsC 0 0 0 (.slice none 0 0)) 28)) := (((Below.refl _ w).alloc (Nat.le_refl _) _).alloc (by simp) _).alloc (by simp; omega) _
  simp only [World.size_alloc] at bC bR
  have hcl := (hB.cell (p := ⟨b, 0, none⟩) hlt).trans hcell
  have nV := hv.below hB
  have hK := fun W hW => Link_any mi mb nx l base A B (.slice a l.length ca) W hW (ok_s hok) hb (by omega) (by omega)
  clear hv hok hnx hb hca hcb hcd
  obtain ⟨⟨p0, p1, p2, p3⟩, _⟩ := bF.four
  obtain ⟨⟨c0, c1, c2, c3⟩, _⟩ := bC.four
  dsimp only at c0 c1 c2 c3
  go_enter Tryz.func75, Tryz.ntmps75
  go_wp2_with fail
  refine (hK _ nV).mono ?_
  rintro e w3 ⟨y, ev, rfl, hN, b3⟩
  obtain ⟨ay, cy, rfl⟩ := nds_slice (hN.now nV b3)
  have HN : Hid (doF mi mb (nx, l) base ⟨5, A, B, D⟩ ev (.slice none 0 0) (.slice none 0 0) = ((nx, (linkF l base A B ev).1), (linkF l base A B ev).2)) := by show _ = _; unfold doF; rfl
  generalize linkF l base A B ev = Z at *
  obtain ⟨z2, z3⟩ := Z
  dsimp only at hN HN
  have hRl := bR.lt
  have hsz := hB.size
  clear hK p0 p1 p2 p3 c0 c1 c2 c3 hcl
  have bR3 := bR.next b3
  have hB3 := hB.trans (b3.mono hB.size)
  obtain ⟨⟨r0, r1, r2, r3⟩, e0, e1', e2', e3⟩ := bR3.four
  obtain ⟨W', hW', hb4, hg4⟩ := bR3.put4 (.int .i64 mi) (.int .i64 mb) (.int .i64 nx) (.slice ay z2.length cy)
  have hbl := below_grown hB3 hg4 (Nat.le_refl _) (by omega)
  have hM := hN.up (w := w) (w' := W') hsz (Kept.grown hg4 hRl)
  go_wp2
  obtain ⟨⟨y0, y1, y2, y3⟩, _⟩ := hb4.four
  refine bodyPost_ret (v := .tuple #[.agg (fsC mi mb nx (.slice ay z2.length cy)), .int .i64 z3]) (by simp [results, Tryz.f75, go_sem, y0, y1, y2, y3]) rfl ?_
  exact ⟨_, ev, .slice none 0 0, .slice none 0 0, by rw [HN.out], by rw [HN.out]; exact hM, hbl⟩
set_option maxHeartbeats 8000000 in
set_option maxRecDepth 100000 in
theorem clo6_any (mi mb nx : Int) (l : List Nd) (base A B D : List UInt8) (v : Value) (w : World) (b : Nat) (hv : Nds w v l) (hok : okB mi mb nx l = true) (hnx : nx < 1099511627776) (hb : base.length ≤ 20000) (hca : A.length ≤ 300) (hcb : B.length ≤ 300) (hcd : D.length ≤ 300) (hcell : w.cell? ⟨b, 0, none⟩ = some (.func (.func 44) #[] #[])) (hlt : b < w.heap.size) :
    Calls Tryz.prog 64 #[.agg (fsC mi mb nx v), .string ⟨base.toArray⟩, .agg (callC ⟨6, A, B, D⟩), .pointer (some ⟨b, 0, none⟩)] w (DoneC mi mb nx l base ⟨6, A, B, D⟩ v w) := by
  obtain ⟨a, ca, rfl⟩ := nds_slice hv
  have bF := ((Blk.new w 28 (fsC mi mb nx (.slice a l.length ca))).alloc (.cells (callC ⟨6, A, B, D⟩) 44)).alloc (.cells (fsC 0 0 0 (.slice none 0 0)) 28)
  have bC := (Blk.new (w.alloc (.cells (fsC mi mb nx (.slice a l.length ca)) 28)) 44 (callC ⟨6, A, B, D⟩)).alloc (.cells (fsC 0 0 0 (.slice none 0 0)) 28)
  have bR := Blk.new ((w.alloc (.cells (fsC mi mb nx (.slice a l.length ca)) 28)).alloc (.cells (callC ⟨6, A, B, D⟩) 44)) 28 (fsC 0 0 0 (.slice none 0 0))
  have hB : Below w.heap.size w (((w.alloc (.cells (fsC mi mb nx (.slice a l.length ca)) 28)).alloc (.cells (callC ⟨6, A, B, D⟩) 44)).alloc (.cells (fsC 0 0 0 (.slice none 0 0)) 28)) := (((Below.refl _ w).alloc (Nat.le_refl _) _).alloc (by simp) _).alloc (by simp; omega) _
  simp only [World.size_alloc] at bC bR
  have hcl := (hB.cell (p := ⟨b, 0, none⟩) hlt).trans hcell
  have nV := hv.below hB
  have hK := fun W hW => Unlink_any mi mb nx l base A (.slice a l.length ca) W hW (ok_s hok) hb (by omega)
  clear hv hok hnx hb hca hcb hcd
  obtain ⟨⟨p0, p1, p2, p3⟩, _⟩ := bF.four
  obtain ⟨⟨c0, c1, c2, c3⟩, _⟩ := bC.four
  dsimp only at c0 c1 c2 c3
  go_enter Tryz.func64, Tryz.ntmps64
  go_wp2_with fail
  refine (hK _ nV).mono ?_
  rintro e w3 ⟨y, ev, rfl, hN, b3⟩
  obtain ⟨ay, cy, rfl⟩ := nds_slice (hN.now nV b3)
  have HN : Hid (doF mi mb (nx, l) base ⟨6, A, B, D⟩ ev (.slice none 0 0) (.slice none 0 0) = ((nx, (unlinkF l base A ev).1), (unlinkF l base A ev).2)) := by show _ = _; unfold doF; rfl
  generalize unlinkF l base A ev = Z at *
  obtain ⟨z2, z3⟩ := Z
  dsimp only at hN HN
  have hRl := bR.lt
  have hsz := hB.size
  clear hK p0 p1 p2 p3 c0 c1 c2 c3 hcl
  have bR3 := bR.next b3
  have hB3 := hB.trans (b3.mono hB.size)
  obtain ⟨⟨r0, r1, r2, r3⟩, e0, e1', e2', e3⟩ := bR3.four
  obtain ⟨W', hW', hb4, hg4⟩ := bR3.put4 (.int .i64 mi) (.int .i64 mb) (.int .i64 nx) (.slice ay z2.length cy)
  have hbl := below_grown hB3 hg4 (Nat.le_refl _) (by omega)
  have hM := hN.up (w := w) (w' := W') hsz (Kept.grown hg4 hRl)
  go_wp2
  obtain ⟨⟨y0, y1, y2, y3⟩, _⟩ := hb4.four
  refine bodyPost_ret (v := .tuple #[.agg (fsC mi mb nx (.slice ay z2.length cy)), .int .i64 z3]) (by simp [results, Tryz.f64, go_sem, y0, y1, y2, y3]) rfl ?_
  exact ⟨_, ev, .slice none 0 0, .slice none 0 0, by rw [HN.out], by rw [HN.out]; exact hM, hbl⟩
set_option maxHeartbeats 8000000 in
set_option maxRecDepth 100000 in
theorem clo7_any (mi mb nx : Int) (l : List Nd) (base A B D : List UInt8) (v : Value) (w : World) (b : Nat) (hv : Nds w v l) (hok : okB mi mb nx l = true) (hnx : nx < 1099511627776) (hb : base.length ≤ 20000) (hca : A.length ≤ 300) (hcb : B.length ≤ 300) (hcd : D.length ≤ 300) (hcell : w.cell? ⟨b, 0, none⟩ = some (.func (.func 45) #[] #[])) (hlt : b < w.heap.size) :
    Calls Tryz.prog 64 #[.agg (fsC mi mb nx v), .string ⟨base.toArray⟩, .agg (callC ⟨7, A, B, D⟩), .pointer (some ⟨b, 0, none⟩)] w (DoneC mi mb nx l base ⟨7, A, B, D⟩ v w) := by
  obtain ⟨a, ca, rfl⟩ := nds_slice hv
  have bF := ((Blk.new w 28 (fsC mi mb nx (.slice a l.length ca))).alloc (.cells (callC ⟨7, A, B, D⟩) 44)).alloc (.cells (fsC 0 0 0 (.slice none 0 0)) 28)
  have bC := (Blk.new (w.alloc (.cells (fsC mi mb nx (.slice a l.length ca)) 28)) 44 (callC ⟨7, A, B, D⟩)).alloc (.cells (fsC 0 0 0 (.slice none 0 0)) 28)
  have bR := Blk.new ((w.alloc (.cells (fsC mi mb nx (.slice a l.length ca)) 28)).alloc (.cells (callC ⟨7, A, B, D⟩) 44)) 28 (fsC 0 0 0 (.slice none 0 0))
  have hB : Below w.heap.size w (((w.alloc (.cells (fsC mi mb nx (.slice a l.length ca)) 28)).alloc (.cells (callC ⟨7, A, B, D⟩) 44)).alloc (.cells (fsC 0 0 0 (.slice none 0 0)) 28)) := (((Below.refl _ w).alloc (Nat.le_refl _) _).alloc (by simp) _).alloc (by simp; omega) _
  simp only [World.size_alloc] at bC bR
  have hcl := (hB.cell (p := ⟨b, 0, none⟩) hlt).trans hcell
  have nV := hv.below hB
  have hK := fun W hW => Rmdir_any mi mb nx l base A (.slice a l.length ca) W hW (ok_s hok) hb (by omega)
  clear hv hok hnx hb hca hcb hcd
  obtain ⟨⟨p0, p1, p2, p3⟩, _⟩ := bF.four
  obtain ⟨⟨c0, c1, c2, c3⟩, _⟩ := bC.four
  dsimp only at c0 c1 c2 c3
  go_enter Tryz.func64, Tryz.ntmps64
  go_wp2_with fail
  refine (hK _ nV).mono ?_
  rintro e w3 ⟨y, ev, rfl, hN, b3⟩
  obtain ⟨ay, cy, rfl⟩ := nds_slice (hN.now nV b3)
  have HN : Hid (doF mi mb (nx, l) base ⟨7, A, B, D⟩ ev (.slice none 0 0) (.slice none 0 0) = ((nx, (rmdirF l base A ev).1), (rmdirF l base A ev).2)) := by show _ = _; unfold doF; rfl
  generalize rmdirF l base A ev = Z at *
  obtain ⟨z2, z3⟩ := Z
  dsimp only at hN HN
  have hRl := bR.lt
  have hsz := hB.size
  clear hK p0 p1 p2 p3 c0 c1 c2 c3 hcl
  have bR3 := bR.next b3
  have hB3 := hB.trans (b3.mono hB.size)
  obtain ⟨⟨r0, r1, r2, r3⟩, e0, e1', e2', e3⟩ := bR3.four
  obtain ⟨W', hW', hb4, hg4⟩ := bR3.put4 (.int .i64 mi) (.int .i64 mb) (.int .i64 nx) (.slice ay z2.length cy)
  have hbl := below_grown hB3 hg4 (Nat.le_refl _) (by omega)
  have hM := hN.up (w := w) (w' := W') hsz (Kept.grown hg4 hRl)
  go_wp2
  obtain ⟨⟨y0, y1, y2, y3⟩, _⟩ := hb4.four
  refine bodyPost_ret (v := .tuple #[.agg (fsC mi mb nx (.slice ay z2.length cy)), .int .i64 z3]) (by simp [results, Tryz.f64, go_sem, y0, y1, y2, y3]) rfl ?_
  exact ⟨_, ev, .slice none 0 0, .slice none 0 0, by rw [HN.out], by rw [HN.out]; exact hM, hbl⟩
set_option maxHeartbeats 8000000 in
set_option maxRecDepth 100000 in
theorem clo8_any (mi mb nx : Int) (l : List Nd) (base A B D : List UInt8) (v : Value) (w : World) (b : Nat) (hv : Nds w v l) (hok : okB mi mb nx l = true) (hnx : nx < 1099511627776) (hb : base.length ≤ 20000) (hca : A.length ≤ 300) (hcb : B.length ≤ 300) (hcd : D.length ≤ 300) (hcell : w.cell? ⟨b, 0, none⟩ = some (.func (.func 46) #[] #[])) (hlt : b < w.heap.size) :
    Calls Tryz.prog 75 #[.agg (fsC mi mb nx v), .string ⟨base.toArray⟩, .agg (callC ⟨8, A, B, D⟩), .pointer (some ⟨b, 0, none⟩)] w (DoneC mi mb nx l base ⟨8, A, B, D⟩ v w) := by
  obtain ⟨a, ca, rfl⟩ := nds_slice hv
  have bF := ((Blk.new w 28 (fsC mi mb nx (.slice a l.length ca))).alloc (.cells (callC ⟨8, A, B, D⟩) 44)).alloc (.cells (fsC 0 0 0 (.slice none 0 0)) 28)
  have bC := (Blk.new (w.alloc (.cells (fsC mi mb nx (.slice a l.length ca)) 28)) 44 (callC ⟨8, A, B, D⟩)).alloc (.cells (fsC 0 0 0 (.slice none 0 0)) 28)
  have bR := Blk.new ((w.alloc (.cells (fsC mi mb nx (.slice a l.length ca)) 28)).alloc (.cells (callC ⟨8, A, B, D⟩) 44)) 28 (fsC 0 0 0 (.slice none 0 0))
  have hB : Below w.heap.size w (((w.alloc (.cells (fsC mi mb nx (.slice a l.length ca)) 28)).alloc (.cells (callC ⟨8, A, B, D⟩) 44)).alloc (.cells (fsC 0 0 0 (.slice none 0 0)) 28)) := (((Below.refl _ w).alloc (Nat.le_refl _) _).alloc (by simp) _).alloc (by simp; omega) _
  simp only [World.size_alloc] at bC bR
  have hcl := (hB.cell (p := ⟨b, 0, none⟩) hlt).trans hcell
  have nV := hv.below hB
  have hK := fun W hW => Rename_any mi mb nx l base A B (.slice a l.length ca) W hW (ok_s hok) hb (by omega) (by omega)
  clear hv hok hnx hb hca hcb hcd
  obtain ⟨⟨p0, p1, p2, p3⟩, _⟩ := bF.four
  obtain ⟨⟨c0, c1, c2, c3⟩, _⟩ := bC.four
  dsimp only at c0 c1 c2 c3
  go_enter Tryz.func75, Tryz.ntmps75
  go_wp2_with fail
  refine (hK _ nV).mono ?_
  rintro e w3 ⟨y, ev, e1, e2, rfl, hN, b3⟩
  obtain ⟨ay, cy, rfl⟩ := nds_slice (hN.now nV b3)
  have HN : Hid (doF mi mb (nx, l) base ⟨8, A, B, D⟩ ev e1 e2 = ((nx, (renameF l base A B ev e1 e2).1), (renameF l base A B ev e1 e2).2)) := by show _ = _; unfold doF; rfl
  generalize renameF l base A B ev e1 e2 = Z at *
  obtain ⟨z2, z3⟩ := Z
  dsimp only at hN HN
  have hRl := bR.lt
  have hsz := hB.size
  clear hK p0 p1 p2 p3 c0 c1 c2 c3 hcl
  have bR3 := bR.next b3
  have hB3 := hB.trans (b3.mono hB.size)
  obtain ⟨⟨r0, r1, r2, r3⟩, e0, e1', e2', e3⟩ := bR3.four
  obtain ⟨W', hW', hb4, hg4⟩ := bR3.put4 (.int .i64 mi) (.int .i64 mb) (.int .i64 nx) (.slice ay z2.length cy)
  have hbl := below_grown hB3 hg4 (Nat.le_refl _) (by omega)
  have hM := hN.up (w := w) (w' := W') hsz (Kept.grown hg4 hRl)
  go_wp2
  obtain ⟨⟨y0, y1, y2, y3⟩, _⟩ := hb4.four
  refine bodyPost_ret (v := .tuple #[.agg (fsC mi mb nx (.slice ay z2.length cy)), .int .i64 z3]) (by simp [results, Tryz.f75, go_sem, y0, y1, y2, y3]) rfl ?_
  exact ⟨_, ev, e1, e2, by rw [HN.out], by rw [HN.out]; exact hM, hbl⟩
end Go.Proofs.YtkdmfeikikmiiaaGreat
