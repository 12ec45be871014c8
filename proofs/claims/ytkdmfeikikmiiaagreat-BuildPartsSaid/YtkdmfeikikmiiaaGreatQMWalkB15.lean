/- Texts put together: WalkC14, WalkA15, WalkB15. -/
import Derived.Test.YtkdmfeikikmiiaaGreatQWalkE14
import Derived.Test.YtkdmfeikikmiiaaGreatQWalkF14
import Derived.Test.YtkdmfeikikmiiaaGreatQWalkG14
import Derived.Test.YtkdmfeikikmiiaaGreatQWalkH14
import Derived.Test.YtkdmfeikikmiiaaGreatQWalkI14
import Derived.Test.YtkdmfeikikmiiaaGreatQWalkD12
import Derived.Test.YtkdmfeikikmiiaaGreatQMWalkD11
import Derived.Test.YtkdmfeikikmiiaaGreatQMWalkF07
import Derived.Test.YtkdmfeikikmiiaaGreatQMWalkB05
import Derived.Test.YtkdmfeikikmiiaaGreatQMWalkH05
import Derived.Deep.RegionWith
set_option linter.unusedVariables false
set_option linter.unusedSimpArgs false
namespace Go.Proofs.YtkdmfeikikmiiaaGreat
open Go.RowKit
theorem refRename_any (mi mb nx : Int) (l : List Nd) (base src dst : List UInt8) (v : Value) (w : World) (hv : Nds w v l) (hf : Fit l) (hb : base.length ≤ 100000) (hp : src.length ≤ 100000) (hp2 : dst.length ≤ 100000) (hsn : (seekP l base dst false).1.name.length ≤ 100000) (hln : ∀ i, 0 ≤ (getN l i).links ∧ (getN l i).links ≤ 1000000)
    (hT : (∀ ev e1 e2, (renameF l base src dst ev e1 e2).2 = 0) → (seekP l base src false).1.ino ≠ (seekP l base dst false).1.ino → MvOk l (seekP l base src false).1 (seekP l base dst false).1) :
    Calls Tryz.prog 33 #[.agg (fsC mi mb nx v), .string ⟨base.toArray⟩, .string ⟨src.toArray⟩, .string ⟨dst.toArray⟩] w fun e w' => ∃ y ev e1 e2, e = .returned (.tuple #[.agg (fsC mi mb nx y), .int .i64 (renameF l base src dst ev e1 e2).2]) ∧ MadeFs w v l w' y (renameF l base src dst ev e1 e2).1 ∧ Below w.heap.size w w' := by
  by_cases h1 : (seekP l base src false).2 = 0
  rotate_left
  · exact refRename_early mi mb nx l base src dst v w hv hf hb hp hp2 (.inl h1)
  by_cases h2 : (seekP l base src false).1.ino = 0
  · exact refRename_early mi mb nx l base src dst v w hv hf hb hp hp2 (.inr (.inl h2))
  by_cases h3 : (seekP l base src false).1.name = []
  · exact refRename_early mi mb nx l base src dst v w hv hf hb hp hp2 (.inr (.inr (.inl h3)))
  by_cases h4 : (seekP l base dst false).2 = 0
  rotate_left
  · exact refRename_early mi mb nx l base src dst v w hv hf hb hp hp2 (.inr (.inr (.inr (.inl h4))))
  by_cases h5 : (seekP l base dst false).1.name = []
  · exact refRename_early mi mb nx l base src dst v w hv hf hb hp hp2 (.inr (.inr (.inr (.inr (.inl h5)))))
  by_cases h6 : (seekP l base src false).1.ino = (seekP l base dst false).1.ino
  · exact refRename_early mi mb nx l base src dst v w hv hf hb hp hp2 (.inr (.inr (.inr (.inr (.inr h6)))))
  by_cases hk : (getN l (seekP l base src false).1.ino).kind = 2 <;> by_cases hpc : (seekP l base dst false).1.ino = 0
  · exact refRename_dir_none mi mb nx l base src dst v w hv hf hb hp hp2 hsn hln hT h1 h2 h3 h4 h5 h6 hk hpc
  · exact refRename_dir_over mi mb nx l base src dst v w hv hf hb hp hp2 hsn hln hT h1 h2 h3 h4 h5 h6 hk hpc
  · exact refRename_leaf_none mi mb nx l base src dst v w hv hf hb hp hp2 hsn hln hT h1 h2 h3 h4 h5 h6 hk hpc
  · exact refRename_leaf_over mi mb nx l base src dst v w hv hf hb hp hp2 hsn hln hT h1 h2 h3 h4 h5 h6 hk hpc
set_option maxHeartbeats 8000000 in
set_option maxRecDepth 100000 in
theorem refDo_any (mi mb nx : Int) (l : List Nd) (base : List UInt8) (c : CallV) (v : Value) (w : World) (hv : Nds w v l) (hok : okB mi mb nx l = true) (hnx : -4611686018427387904 ≤ nx ∧ nx ≤ 4611686018427387904) (hb : base.length ≤ 20000) (hca : c.a.length ≤ 20000) (hcb : c.b.length ≤ 20000) (hcd : c.data.length ≤ 20000) :
    Calls Tryz.prog 16 #[.agg (fsC mi mb nx v), .string ⟨base.toArray⟩, .agg (callC c)] w fun e w' => ∃ y ev e1 e2, e = .returned (.tuple #[.agg (fsC mi mb (doF mi mb (nx, l) base c ev e1 e2).1.1 y), .int .i64 (doF mi mb (nx, l) base c ev e1 e2).2]) ∧ MadeFs w v l w' y (doF mi mb (nx, l) base c ev e1 e2).1.2 ∧ Below w.heap.size w w' := by
  obtain ⟨a, ca, rfl⟩ := nds_slice hv
  obtain ⟨o, A, B, D⟩ := c
  dsimp only at hca hcb hcd
  have bF := ((Blk.new w 28 (fsC mi mb nx (.slice a l.length ca))).alloc (.cells (callC ⟨o, A, B, D⟩) 44)).alloc (.cells (fsC 0 0 0 (.slice none 0 0)) 28)
  have bC := (Blk.new (w.alloc (.cells (fsC mi mb nx (.slice a l.length ca)) 28)) 44 (callC ⟨o, A, B, D⟩)).alloc (.cells (fsC 0 0 0 (.slice none 0 0)) 28)
  have bR := Blk.new ((w.alloc (.cells (fsC mi mb nx (.slice a l.length ca)) 28)).alloc (.cells (callC ⟨o, A, B, D⟩) 44)) 28 (fsC 0 0 0 (.slice none 0 0))
  have hB : Below w.heap.size w (((w.alloc (.cells (fsC mi mb nx (.slice a l.length ca)) 28)).alloc (.cells (callC ⟨o, A, B, D⟩) 44)).alloc (.cells (fsC 0 0 0 (.slice none 0 0)) 28)) := (((Below.refl _ w).alloc (Nat.le_refl _) _).alloc (by simp) _).alloc (by simp; omega) _
  simp only [World.size_alloc] at bC bR
  have nV := hv.below hB
  have hf := fit_of hok
  have hln : ∀ i, 0 ≤ (getN l i).links ∧ (getN l i).links ≤ 1000000 := fun i => by have := links_few hok i; omega
  have hsA := seek_short l base A false
  have hsB := seek_short l base B false
  have hMk := fun W hW => refMkdir_any mi mb nx l base A (.slice a l.length ca) W hW hf (by omega) (by omega) (by omega) hnx
  have hCr := fun W hW => refCreate_any mi mb nx l base A D (.slice a l.length ca) W hW hf (by omega) (by omega) (by omega) (by omega) hnx
  have hWr := fun W hW => refWrite13_any mi mb nx l base A D (.slice a l.length ca) W hW hf (by omega) (by omega) (by omega)
  have hSy := fun W hW => refSymlink_any mi mb nx l base D A (.slice a l.length ca) W hW hf (by omega) (by omega) (by omega) hnx
  have hLk := fun W hW => refLink_any mi mb nx l base A B (.slice a l.length ca) W hW hf (by omega) (by omega) (by omega) (by omega) hln
  have hUn := fun W hW => refUnlink_any mi mb nx l base A (.slice a l.length ca) W hW hf (by omega) (by omega) hln
  have hRm := fun W hW => refRmdir_any mi mb nx l base A (.slice a l.length ca) W hW hf (by omega) (by omega) hln
  have hRn := fun W hW => refRename_any mi mb nx l base A B (.slice a l.length ca) W hW hf (by omega) (by omega) (by omega) (by omega) hln (fun h0 hne => ren_mvok hok h0 hne)
  clear hv hf hln hsA hsB hok hnx hb hca hcb hcd
  obtain ⟨⟨p0, p1, p2, p3⟩, _⟩ := bF.four
  obtain ⟨⟨c0, c1, c2, c3⟩, _⟩ := bC.four
  dsimp only at c0 c1 c2 c3
  go_enter Tryz.func16, Tryz.ntmps16
  by_cases ho : o = 1
  case pos =>
    subst ho
    clear hCr hWr hSy hLk hUn hRm hRn
    go_wp2_with fail
    refine (hMk _ nV).mono ?_
    rintro e w3 ⟨y, ev, rfl, hN, b3⟩
    obtain ⟨ay, cy, rfl⟩ := nds_slice (hN.now nV b3)
    have HN : Hid (doF mi mb (nx, l) base ⟨1, A, B, D⟩ ev (.slice none 0 0) (.slice none 0 0) = putF mi mb nx l base A 2 [] 0 ev) := by show _ = _; unfold doF; rfl
    generalize putF mi mb nx l base A 2 [] 0 ev = Z at *
    obtain ⟨⟨z1, z2⟩, z3⟩ := Z
    dsimp only at hN HN
    have hRl := bR.lt
    have hsz := hB.size
    clear hMk p0 p1 p2 p3 c0 c1 c2 c3
    have bR3 := bR.next b3
    have hB3 := hB.trans (b3.mono hB.size)
    obtain ⟨⟨r0, r1, r2, r3⟩, e0, e1', e2', e3⟩ := bR3.four
    obtain ⟨W', hW', hb4, hg4⟩ := bR3.put4 (.int .i64 mi) (.int .i64 mb) (.int .i64 z1) (.slice ay z2.length cy)
    have hbl := below_grown hB3 hg4 (Nat.le_refl _) (by omega)
    have hM := hN.up (w := w) (w' := W') hsz (Kept.grown hg4 hRl)
    go_wp2
    obtain ⟨⟨y0, y1, y2, y3⟩, _⟩ := hb4.four
    refine bodyPost_ret (v := .tuple #[.agg (fsC mi mb z1 (.slice ay z2.length cy)), .int .i64 z3]) (by simp [results, Tryz.f16, go_sem, y0, y1, y2, y3]) rfl ?_
    exact ⟨_, ev, .slice none 0 0, .slice none 0 0, by rw [HN.out], by rw [HN.out]; exact hM, hbl⟩
  have ho1 : (o == 1) = false := by simpa using ho
  have hoo1 := Lib.hid ho
  clear ho
  by_cases ho : o = 2
  case pos =>
    subst ho
    clear hMk hWr hSy hLk hUn hRm hRn
    go_wp2_with fail
    refine (hCr _ nV).mono ?_
    rintro e w3 ⟨y, ev, rfl, hN, b3⟩
    obtain ⟨ay, cy, rfl⟩ := nds_slice (hN.now nV b3)
    have HN : Hid (doF mi mb (nx, l) base ⟨2, A, B, D⟩ ev (.slice none 0 0) (.slice none 0 0) = putF mi mb nx l base A 1 D 4 ev) := by show _ = _; unfold doF; rfl
    generalize putF mi mb nx l base A 1 D 4 ev = Z at *
    obtain ⟨⟨z1, z2⟩, z3⟩ := Z
    dsimp only at hN HN
    have hRl := bR.lt
    have hsz := hB.size
    clear hCr p0 p1 p2 p3 c0 c1 c2 c3
    have bR3 := bR.next b3
    have hB3 := hB.trans (b3.mono hB.size)
    obtain ⟨⟨r0, r1, r2, r3⟩, e0, e1', e2', e3⟩ := bR3.four
    obtain ⟨W', hW', hb4, hg4⟩ := bR3.put4 (.int .i64 mi) (.int .i64 mb) (.int .i64 z1) (.slice ay z2.length cy)
    have hbl := below_grown hB3 hg4 (Nat.le_refl _) (by omega)
    have hM := hN.up (w := w) (w' := W') hsz (Kept.grown hg4 hRl)
    go_wp2
    obtain ⟨⟨y0, y1, y2, y3⟩, _⟩ := hb4.four
    refine bodyPost_ret (v := .tuple #[.agg (fsC mi mb z1 (.slice ay z2.length cy)), .int .i64 z3]) (by simp [results, Tryz.f16, go_sem, y0, y1, y2, y3]) rfl ?_
    exact ⟨_, ev, .slice none 0 0, .slice none 0 0, by rw [HN.out], by rw [HN.out]; exact hM, hbl⟩
  have ho2 : (o == 2) = false := by simpa using ho
  have hoo2 := Lib.hid ho
  clear ho
  by_cases ho : o = 3
  case pos =>
    subst ho
    clear hMk hCr hSy hLk hUn hRm hRn
    go_wp2_with fail
    refine (hWr _ nV).mono ?_
    rintro e w3 ⟨y, rfl, hN, b3⟩
    obtain ⟨ay, cy, rfl⟩ := nds_slice (hN.now nV b3)
    have HN : Hid (doF mi mb (nx, l) base ⟨3, A, B, D⟩ (.slice none 0 0) (.slice none 0 0) (.slice none 0 0) = ((nx, (writeF mi mb l base A D).1), (writeF mi mb l base A D).2)) := by show _ = _; unfold doF; rfl
    generalize writeF mi mb l base A D = Z at *
    obtain ⟨z2, z3⟩ := Z
    dsimp only at hN HN
    have hRl := bR.lt
    have hsz := hB.size
    clear hWr p0 p1 p2 p3 c0 c1 c2 c3
    have bR3 := bR.next b3
    have hB3 := hB.trans (b3.mono hB.size)
    obtain ⟨⟨r0, r1, r2, r3⟩, e0, e1', e2', e3⟩ := bR3.four
    obtain ⟨W', hW', hb4, hg4⟩ := bR3.put4 (.int .i64 mi) (.int .i64 mb) (.int .i64 nx) (.slice ay z2.length cy)
    have hbl := below_grown hB3 hg4 (Nat.le_refl _) (by omega)
    have hM := hN.up (w := w) (w' := W') hsz (Kept.grown hg4 hRl)
    go_wp2
    obtain ⟨⟨y0, y1, y2, y3⟩, _⟩ := hb4.four
    refine bodyPost_ret (v := .tuple #[.agg (fsC mi mb nx (.slice ay z2.length cy)), .int .i64 z3]) (by simp [results, Tryz.f16, go_sem, y0, y1, y2, y3]) rfl ?_
    exact ⟨_, .slice none 0 0, .slice none 0 0, .slice none 0 0, by rw [HN.out], by rw [HN.out]; exact hM, hbl⟩
  have ho3 : (o == 3) = false := by simpa using ho
  have hoo3 := Lib.hid ho
  clear ho
  by_cases ho : o = 4
  case pos =>
    subst ho
    clear hMk hCr hWr hLk hUn hRm hRn
    go_wp2_with fail
    refine (hSy _ nV).mono ?_
    rintro e w3 ⟨y, ev, rfl, hN, b3⟩
    obtain ⟨ay, cy, rfl⟩ := nds_slice (hN.now nV b3)
    have HN : Hid (doF mi mb (nx, l) base ⟨4, A, B, D⟩ ev (.slice none 0 0) (.slice none 0 0) = symF mi mb nx l base D A ev) := by show _ = _; unfold doF; rfl
    generalize symF mi mb nx l base D A ev = Z at *
    obtain ⟨⟨z1, z2⟩, z3⟩ := Z
    dsimp only at hN HN
    have hRl := bR.lt
    have hsz := hB.size
    clear hSy p0 p1 p2 p3 c0 c1 c2 c3
    have bR3 := bR.next b3
    have hB3 := hB.trans (b3.mono hB.size)
    obtain ⟨⟨r0, r1, r2, r3⟩, e0, e1', e2', e3⟩ := bR3.four
    obtain ⟨W', hW', hb4, hg4⟩ := bR3.put4 (.int .i64 mi) (.int .i64 mb) (.int .i64 z1) (.slice ay z2.length cy)
    have hbl := below_grown hB3 hg4 (Nat.le_refl _) (by omega)
    have hM := hN.up (w := w) (w' := W') hsz (Kept.grown hg4 hRl)
    go_wp2
    obtain ⟨⟨y0, y1, y2, y3⟩, _⟩ := hb4.four
    refine bodyPost_ret (v := .tuple #[.agg (fsC mi mb z1 (.slice ay z2.length cy)), .int .i64 z3]) (by simp [results, Tryz.f16, go_sem, y0, y1, y2, y3]) rfl ?_
    exact ⟨_, ev, .slice none 0 0, .slice none 0 0, by rw [HN.out], by rw [HN.out]; exact hM, hbl⟩
  have ho4 : (o == 4) = false := by simpa using ho
  have hoo4 := Lib.hid ho
  clear ho
  by_cases ho : o = 5
  case pos =>
    subst ho
    clear hMk hCr hWr hSy hUn hRm hRn
    go_wp2_with fail
    refine (hLk _ nV).mono ?_
    rintro e w3 ⟨y, ev, rfl, hN, b3⟩
    obtain ⟨ay, cy, rfl⟩ := nds_slice (hN.now nV b3)
    have HN : Hid (doF mi mb (nx, l) base ⟨5, A, B, D⟩ ev (.slice none 0 0) (.slice none 0 0) = ((nx, (linkF l base A B ev).1), (linkF l base A B ev).2)) := by show _ = _; unfold doF; rfl
    generalize linkF l base A B ev = Z at *
    obtain ⟨z2, z3⟩ := Z
    dsimp only at hN HN
    have hRl := bR.lt
    have hsz := hB.size
    clear hLk p0 p1 p2 p3 c0 c1 c2 c3
    have bR3 := bR.next b3
    have hB3 := hB.trans (b3.mono hB.size)
    obtain ⟨⟨r0, r1, r2, r3⟩, e0, e1', e2', e3⟩ := bR3.four
    obtain ⟨W', hW', hb4, hg4⟩ := bR3.put4 (.int .i64 mi) (.int .i64 mb) (.int .i64 nx) (.slice ay z2.length cy)
    have hbl := below_grown hB3 hg4 (Nat.le_refl _) (by omega)
    have hM := hN.up (w := w) (w' := W') hsz (Kept.grown hg4 hRl)
    go_wp2
    obtain ⟨⟨y0, y1, y2, y3⟩, _⟩ := hb4.four
    refine bodyPost_ret (v := .tuple #[.agg (fsC mi mb nx (.slice ay z2.length cy)), .int .i64 z3]) (by simp [results, Tryz.f16, go_sem, y0, y1, y2, y3]) rfl ?_
    exact ⟨_, ev, .slice none 0 0, .slice none 0 0, by rw [HN.out], by rw [HN.out]; exact hM, hbl⟩
  have ho5 : (o == 5) = false := by simpa using ho
  have hoo5 := Lib.hid ho
  clear ho
  by_cases ho : o = 6
  case pos =>
    subst ho
    clear hMk hCr hWr hSy hLk hRm hRn
    go_wp2_with fail
    refine (hUn _ nV).mono ?_
    rintro e w3 ⟨y, ev, rfl, hN, b3⟩
    obtain ⟨ay, cy, rfl⟩ := nds_slice (hN.now nV b3)
    have HN : Hid (doF mi mb (nx, l) base ⟨6, A, B, D⟩ ev (.slice none 0 0) (.slice none 0 0) = ((nx, (unlinkF l base A ev).1), (unlinkF l base A ev).2)) := by show _ = _; unfold doF; rfl
    generalize unlinkF l base A ev = Z at *
    obtain ⟨z2, z3⟩ := Z
    dsimp only at hN HN
    have hRl := bR.lt
    have hsz := hB.size
    clear hUn p0 p1 p2 p3 c0 c1 c2 c3
    have bR3 := bR.next b3
    have hB3 := hB.trans (b3.mono hB.size)
    obtain ⟨⟨r0, r1, r2, r3⟩, e0, e1', e2', e3⟩ := bR3.four
    obtain ⟨W', hW', hb4, hg4⟩ := bR3.put4 (.int .i64 mi) (.int .i64 mb) (.int .i64 nx) (.slice ay z2.length cy)
    have hbl := below_grown hB3 hg4 (Nat.le_refl _) (by omega)
    have hM := hN.up (w := w) (w' := W') hsz (Kept.grown hg4 hRl)
    go_wp2
    obtain ⟨⟨y0, y1, y2, y3⟩, _⟩ := hb4.four
    refine bodyPost_ret (v := .tuple #[.agg (fsC mi mb nx (.slice ay z2.length cy)), .int .i64 z3]) (by simp [results, Tryz.f16, go_sem, y0, y1, y2, y3]) rfl ?_
    exact ⟨_, ev, .slice none 0 0, .slice none 0 0, by rw [HN.out], by rw [HN.out]; exact hM, hbl⟩
  have ho6 : (o == 6) = false := by simpa using ho
  have hoo6 := Lib.hid ho
  clear ho
  by_cases ho : o = 7
  case pos =>
    subst ho
    clear hMk hCr hWr hSy hLk hUn hRn
    go_wp2_with fail
    refine (hRm _ nV).mono ?_
    rintro e w3 ⟨y, ev, rfl, hN, b3⟩
    obtain ⟨ay, cy, rfl⟩ := nds_slice (hN.now nV b3)
    have HN : Hid (doF mi mb (nx, l) base ⟨7, A, B, D⟩ ev (.slice none 0 0) (.slice none 0 0) = ((nx, (rmdirF l base A ev).1), (rmdirF l base A ev).2)) := by show _ = _; unfold doF; rfl
    generalize rmdirF l base A ev = Z at *
    obtain ⟨z2, z3⟩ := Z
    dsimp only at hN HN
    have hRl := bR.lt
    have hsz := hB.size
    clear hRm p0 p1 p2 p3 c0 c1 c2 c3
    have bR3 := bR.next b3
    have hB3 := hB.trans (b3.mono hB.size)
    obtain ⟨⟨r0, r1, r2, r3⟩, e0, e1', e2', e3⟩ := bR3.four
    obtain ⟨W', hW', hb4, hg4⟩ := bR3.put4 (.int .i64 mi) (.int .i64 mb) (.int .i64 nx) (.slice ay z2.length cy)
    have hbl := below_grown hB3 hg4 (Nat.le_refl _) (by omega)
    have hM := hN.up (w := w) (w' := W') hsz (Kept.grown hg4 hRl)
    go_wp2
    obtain ⟨⟨y0, y1, y2, y3⟩, _⟩ := hb4.four
    refine bodyPost_ret (v := .tuple #[.agg (fsC mi mb nx (.slice ay z2.length cy)), .int .i64 z3]) (by simp [results, Tryz.f16, go_sem, y0, y1, y2, y3]) rfl ?_
    exact ⟨_, ev, .slice none 0 0, .slice none 0 0, by rw [HN.out], by rw [HN.out]; exact hM, hbl⟩
  have ho7 : (o == 7) = false := by simpa using ho
  have hoo7 := Lib.hid ho
  clear ho
  by_cases ho : o = 8
  case pos =>
    subst ho
    clear hMk hCr hWr hSy hLk hUn hRm
    go_wp2_with fail
    refine (hRn _ nV).mono ?_
    rintro e w3 ⟨y, ev, e1, e2, rfl, hN, b3⟩
    obtain ⟨ay, cy, rfl⟩ := nds_slice (hN.now nV b3)
    have HN : Hid (doF mi mb (nx, l) base ⟨8, A, B, D⟩ ev e1 e2 = ((nx, (renameF l base A B ev e1 e2).1), (renameF l base A B ev e1 e2).2)) := by show _ = _; unfold doF; rfl
    generalize renameF l base A B ev e1 e2 = Z at *
    obtain ⟨z2, z3⟩ := Z
    dsimp only at hN HN
    have hRl := bR.lt
    have hsz := hB.size
    clear hRn p0 p1 p2 p3 c0 c1 c2 c3
    have bR3 := bR.next b3
    have hB3 := hB.trans (b3.mono hB.size)
    obtain ⟨⟨r0, r1, r2, r3⟩, e0, e1', e2', e3⟩ := bR3.four
    obtain ⟨W', hW', hb4, hg4⟩ := bR3.put4 (.int .i64 mi) (.int .i64 mb) (.int .i64 nx) (.slice ay z2.length cy)
    have hbl := below_grown hB3 hg4 (Nat.le_refl _) (by omega)
    have hM := hN.up (w := w) (w' := W') hsz (Kept.grown hg4 hRl)
    go_wp2
    obtain ⟨⟨y0, y1, y2, y3⟩, _⟩ := hb4.four
    refine bodyPost_ret (v := .tuple #[.agg (fsC mi mb nx (.slice ay z2.length cy)), .int .i64 z3]) (by simp [results, Tryz.f16, go_sem, y0, y1, y2, y3]) rfl ?_
    exact ⟨_, ev, e1, e2, by rw [HN.out], by rw [HN.out]; exact hM, hbl⟩
  have ho8 : (o == 8) = false := by simpa using ho
  have hoo8 := Lib.hid ho
  clear ho
  have HN : Hid (doF mi mb (nx, l) base ⟨o, A, B, D⟩ (.slice none 0 0) (.slice none 0 0) (.slice none 0 0) = ((nx, l), 9)) := by
    show _ = _
    unfold doF
    rw [if_neg hoo1.out, if_neg hoo2.out, if_neg hoo3.out, if_neg hoo4.out, if_neg hoo5.out, if_neg hoo6.out, if_neg hoo7.out, if_neg hoo8.out]
  clear hMk hCr hWr hSy hLk hUn hRm hRn hoo1 hoo2 hoo3 hoo4 hoo5 hoo6 hoo7 hoo8
  have bR' := Blk.new ((w.alloc (.cells (fsC mi mb nx (.slice a l.length ca)) 28)).alloc (.cells (callC ⟨o, A, B, D⟩) 44)) 28 (fsC mi mb nx (.slice a l.length ca))
  have hbl : Below w.heap.size w (((w.alloc (.cells (fsC mi mb nx (.slice a l.length ca)) 28)).alloc (.cells (callC ⟨o, A, B, D⟩) 44)).alloc (.cells (fsC mi mb nx (.slice a l.length ca)) 28)) := (((Below.refl _ w).alloc (Nat.le_refl _) _).alloc (by simp) _).alloc (by simp; omega) _
  simp only [World.size_alloc] at bR'
  go_wp2
  obtain ⟨⟨y0, y1, y2, y3⟩, _⟩ := bR'.four
  refine bodyPost_ret (v := .tuple #[.agg (fsC mi mb nx (.slice a l.length ca)), .int .i64 9]) (by simp [results, Tryz.f16, go_sem, y0, y1, y2, y3]) rfl ?_
  exact ⟨_, .slice none 0 0, .slice none 0 0, .slice none 0 0, by rw [HN.out], by rw [HN.out]; exact MadeFs.same _ _ _ _, hbl⟩
/-- What was made behind m is as it was, but for one row's own block. -/
def KeepO (m : Nat) (o : Option Nat) (w W : World) : Prop := w.heap.size ≤ W.heap.size ∧ ∀ b, m ≤ b → b < w.heap.size → o ≠ some b → W.heap[b]? = w.heap[b]?
/-- A table that a loop keeps making, beside a row of its own. -/
def MadeG (m : Nat) (o : Option Nat) (v : Value) (l : List Nd) (w : World) (y : Value) (L : List Nd) : Prop := ∀ W, KeepO m o w W → Nds W v l → Nds W y L
theorem MadeG.start (m : Nat) (o : Option Nat) (v : Value) (l : List Nd) (w : World) : MadeG m o v l w v l := fun _ _ h => h
theorem MadeG.now {m : Nat} {o : Option Nat} {v y : Value} {l L : List Nd} {w : World} (h : MadeG m o v l w y L) (hv : Nds w v l) : Nds w y L := h w ⟨Nat.le_refl _, fun _ _ _ _ => rfl⟩ hv
theorem MadeG.call {m : Nat} {o : Option Nat} {v y y3 : Value} {l l2 l3 : List Nd} {w w3 : World} (h : MadeG m o v l w y l2) (c : MadeFs w y l2 w3 y3 l3) (hb : Below w.heap.size w w3) (ho : ∀ g, o = some g → g < w.heap.size) (hm : m ≤ w.heap.size) : MadeG m o v l w3 y3 l3 := fun W hk hv =>
  c W ⟨hk.1, fun b h1 h2 => hk.2 b (Nat.le_trans hm h1) h2 (fun e => by have := ho b e; omega)⟩
    (h W ⟨Nat.le_trans hb.size hk.1, fun b h1 h2 h3 => (hk.2 b h1 (Nat.lt_of_lt_of_le h2 hb.size) h3).trans (hb.block b h2)⟩ hv)
/-- A call from a world where one box more was made ahead, which is written behind it. -/
theorem MadeG.call2 {m B : Nat} {o : Option Nat} {v y y3 : Value} {l l2 l3 : List Nd} {w wz w3 w4 : World} (h : MadeG m o v l w y l2) (c : MadeFs wz y l2 w3 y3 l3) (hz : Below w.heap.size w wz) (hb : Below wz.heap.size wz w3) (ho : ∀ g, o = some g → g < w.heap.size) (hm : m ≤ w.heap.size) (hB1 : w.heap.size ≤ B) (hB2 : B < wz.heap.size) (hg : w3.grownBy w4 (some B)) : MadeG m o v l w4 y3 l3 := fun W hk hv =>
  c W ⟨Nat.le_trans hg.size hk.1, fun b h1 h2 => (hk.2 b (Nat.le_trans hm (Nat.le_trans hz.size h1)) (Nat.lt_of_lt_of_le h2 hg.size) (fun e => by have := ho b e; have := hz.size; omega)).trans (hg.block b h2 (fun e => by have := Option.some.inj e; omega))⟩
    (h W ⟨Nat.le_trans (Nat.le_trans (Nat.le_trans hz.size hb.size) hg.size) hk.1, fun b h1 h2 h3 => by
      have h4 : b < wz.heap.size := Nat.lt_of_lt_of_le h2 hz.size
      have h5 : b < w3.heap.size := Nat.lt_of_lt_of_le h4 hb.size
      rw [hk.2 b h1 (Nat.lt_of_lt_of_le h5 hg.size) h3, hg.block b h5 (fun e => by have := Option.some.inj e; omega), hb.block b h4]
      exact hz.block b h2⟩ hv)
theorem MadeG.kept {m : Nat} {o : Option Nat} {v y : Value} {l L : List Nd} {w w4 : World} (h : MadeG m o v l w y L) (k : Kept m w w4) : MadeG m o v l w4 y L := fun W hk hv =>
  h W ⟨Nat.le_trans k.1 hk.1, fun b h1 h2 h3 => (hk.2 b h1 (Nat.lt_of_lt_of_le h2 k.1) h3).trans (k.2 b h1 h2)⟩ hv
/-- A box that was made behind a call, written: what the call made doesn't lie in it. -/
theorem MadeG.kept2 {m : Nat} {o : Option Nat} {v y : Value} {l L : List Nd} {w w4 : World} {C : Obj} (h : MadeG m o v l w y L) (hg : (w.alloc C).grownBy w4 (some w.heap.size)) : MadeG m o v l w4 y L := fun W hk hv => by
  have hs : w.heap.size ≤ w4.heap.size := Nat.le_trans (by simp) hg.size
  refine h W ⟨Nat.le_trans hs hk.1, fun b h1 h2 h3 => ?_⟩ hv
  rw [hk.2 b h1 (Nat.lt_of_lt_of_le h2 hs) h3, hg.block b (by simp; omega) (fun e => by have := Option.some.inj e; omega)]
  exact ((Below.refl w.heap.size w).alloc (Nat.le_refl _) C).block b h2
theorem MadeG.row {m : Nat} {o o' : Option Nat} {v y : Value} {l L : List Nd} {w w6 : World} {C : Obj} (h : MadeG m o v l w y L) (hg : (w.alloc C).grownBy w6 o) (hn : ∀ g, o' = some g → o = some g ∨ w.heap.size < g) : MadeG m o' v l w6 y L := fun W hk hv => by
  have hs : w.heap.size ≤ w6.heap.size := Nat.le_trans (by simp) hg.size
  refine h W ⟨Nat.le_trans hs hk.1, fun b h1 h2 h3 => ?_⟩ hv
  have e1 := hk.2 b h1 (Nat.lt_of_lt_of_le h2 hs) (fun e => by
    rcases hn b e with h | h
    · exact h3 h
    · omega)
  have e2 := hg.block b (by simp; omega) (fun e => h3 e.symm)
  rw [e1, e2]
  exact ((Below.refl w.heap.size w).alloc (Nat.le_refl _) C).block b h2
theorem MadeG.out {m n : Nat} {o : Option Nat} {v y : Value} {l L : List Nd} {w w' : World} (h : MadeG m o v l w y L) (k : Kept m w w') (hm : n ≤ m) : ∀ W, Kept n w' W → Nds W v l → Nds W y L := fun W hk hv =>
  h W ⟨Nat.le_trans k.1 hk.1, fun b h1 h2 _ => (hk.2 b (Nat.le_trans hm h1) (Nat.lt_of_lt_of_le h2 k.1)).trans (k.2 b h1 h2)⟩ hv
theorem own_ne_some {w : World} {base : Nat} {e : TypeId} {size : Nat} {v : Value} {n : Nat} {xs : List Value} (h : w.ownsRow base e size v n xs) {B : Nat} (hB : B < base) : some B ≠ v.ownBlock := fun e => by
  have := (h.lt B e.symm).1
  omega
set_option maxHeartbeats 8000000 in
set_option maxRecDepth 100000 in
theorem refRun_any (mi mb nx0 : Int) (l0 : List Nd) (cs : List CallV) (base : List UInt8) (v vc : Value) (w : World) (hv : Nds w v l0) (hc : Cls w vc cs) {n : Nat} (hk : Kit mi mb n (nx0, l0)) (hn : n + cs.length ≤ 30) (hb : base.length ≤ 20000) (hsh : ∀ c ∈ cs, c.a.length ≤ 300 ∧ c.b.length ≤ 300 ∧ c.data.length ≤ 300) :
    Calls Tryz.prog 11 #[.agg (fsC mi mb nx0 v), .string ⟨base.toArray⟩, vc] w fun e w' => ∃ y vo s es, e = .returned (.tuple #[.agg (fsC mi mb s.1 y), vo]) ∧ MadeFs w v l0 w' y s.2 ∧ w'.ownsRow w.heap.size 3 1 vo es.length (intsV es) ∧ RanN mi mb base (nx0, l0) cs cs.length s es ∧ Below w.heap.size w w' := by
  obtain ⟨i0, hi, hz0, hz1, hz2⟩ := info_parts infoI
  obtain ⟨a, ca, rfl⟩ := nds_slice hv
  obtain ⟨ac, cc, rfl, hcc, hcm, _, hcn, HX0⟩ := id hc
  unfold maxLen at hcm
  have HX := Lib.hid HX0
  have HV := Lib.hid hv
  have HSH := Lib.hid hsh
  have HKi := Lib.hid (fun k s es (hk2 : n + k ≤ 31) h => ran_kit (base := base) hk (fun c hc => (hsh c hc).2.2) (k := k) (s := s) (es := es) hk2 h)
  clear HX0 hsh hk hc
  have bF := (Blk.new w 28 (fsC mi mb nx0 (.slice a l0.length ca))).alloc (.cells (fsC 0 0 0 (.slice none 0 0)) 28)
  have bR := Blk.new (w.alloc (.cells (fsC mi mb nx0 (.slice a l0.length ca)) 28)) 28 (fsC 0 0 0 (.slice none 0 0))
  have hB := ((Below.refl w.heap.size w).alloc (Nat.le_refl _) (.cells (fsC mi mb nx0 (.slice a l0.length ca)) 28)).alloc (by simp) (.cells (fsC 0 0 0 (.slice none 0 0)) 28)
  simp only [World.size_alloc] at bR
  have hm0 : w.heap.size + 2 ≤ ((w.alloc (.cells (fsC mi mb nx0 (.slice a l0.length ca)) 28)).alloc (.cells (fsC 0 0 0 (.slice none 0 0)) 28)).heap.size := by simp
  clear hv
  go_enter Tryz.func11, Tryz.ntmps11
  go_wp2
  generalize (w.alloc (.cells (fsC mi mb nx0 (.slice a l0.length ca)) 28)).alloc (.cells (fsC 0 0 0 (.slice none 0 0)) 28) = w0 at *
  go_loopg [8, 9] cs.length (fun g s8 s9 wr => ∃ (k : Nat) (y : Value) (s : St) (es : List Int), k + g = cs.length ∧ s9 = .int .i64 k ∧ Below w.heap.size w wr ∧ Aside (Blk wr w.heap.size 28 (fsC mi mb s.1 y)) ∧ Aside (Blk wr (w.heap.size + 1) 28 (fsC 0 0 0 (.slice none 0 0))) ∧
    Aside (MadeG (w.heap.size + 2) s8.ownBlock (.slice a l0.length ca) l0 wr y s.2) ∧ Aside (wr.ownsRow (w.heap.size + 2) 3 1 s8 es.length (intsV es)) ∧ Aside (RanN mi mb base (nx0, l0) cs k s es) ∧ Aside (w.heap.size + 2 ≤ wr.heap.size))
  case atStart => exact ⟨0, .slice a l0.length ca, (nx0, l0), [], by omega, rfl, hB, bF, bR, MadeG.start _ _ _ _ _, World.ownsRow_nil _ _ _ _, ⟨rfl, rfl⟩, hm0⟩
  case round =>
    clear bF bR hB hm0
    obtain ⟨k, y, ⟨nx, l⟩, es, hkg, rfl, hbw, HF, HR, HM, HO, HRan, HSZ⟩ := hrel
    by_cases hlt : k < cs.length
    · obtain ⟨G, rfl⟩ : ∃ G, gk = G + 1 := ⟨gk - 1, by omega⟩
      obtain ⟨b, off, rfl, hbl, hcl⟩ := HX.out (by omega)
      have hx0 := hcl k hlt
      clear hcl
      have hs3 := HSH.out _ (List.getElem_mem hlt)
      have hck : cs[k]? = some cs[k] := List.getElem?_eq_getElem hlt
      generalize cs[k] = c at *
      obtain ⟨o, A, B, D⟩ := c
      have HCK := Lib.hid hck
      clear hck
      have k0 : (0 : Int) ≤ (k : Int) := by omega
      have k1 : (k : Int) < (cs.length : Int) := by omega
      have hkit := HKi.out k _ _ (by omega) HRan.out
      have hok := hkit.ok (by omega)
      have hnx1 : nx ≤ 2 + ((n + k : Nat) : Int) := hkit.next
      have hnx2 := (hkit.sound.ino _ (get_mem hkit.sound.root).1)
      have nF : Nds wr y l := HM.out.now (HV.out.below hbw)
      obtain ⟨ay, cy, rfl⟩ := nds_slice nF
      dsimp only at hs3
      have HDo := Lib.hid (fun W hW => refDo_any mi mb nx l base ⟨o, A, B, D⟩ (.slice ay l.length cy) W hW hok (by dsimp only at hnx1 hnx2; omega) hb (by dsimp only; omega) (by dsimp only; omega) (by dsimp only; omega))
      have hel : es.length ≤ 40 := by rw [ran_len HRan.out]; omega
      obtain ⟨av, cv, rfl⟩ := own_slice HO.out
      have bF : Blk wr w.heap.size 28 (fsC mi mb nx (.slice ay l.length cy)) := HF.out
      have bR := HR.out
      have hFl := bF.lt
      have hRl := bR.lt
      have oO := HO.out
      have hM : MadeG (w.heap.size + 2) (Value.ownBlock (.slice av es.length cv)) (.slice a l0.length ca) l0 wr (.slice ay l.length cy) l := HM.out
      have hlto : ∀ g, (Value.ownBlock (.slice av es.length cv)) = some g → g < wr.heap.size := fun g hg => (oO.lt g hg).2
      have hSr : w.heap.size + 2 ≤ wr.heap.size := HSZ.out
      have HX0 := Lib.hid hx0
      have HMK : ∀ W, Below wr.heap.size wr W → (W.cell? ⟨w.heap.size, 0, none⟩ = some (.int .i64 mi) ∧ W.cell? ⟨w.heap.size, 1, none⟩ = some (.int .i64 mb) ∧ W.cell? ⟨w.heap.size, 2, none⟩ = some (.int .i64 nx) ∧ W.cell? ⟨w.heap.size, 3, none⟩ = some (.slice ay l.length cy) ∧ W.cell? ⟨b, off + k * 4, none⟩ = some (.int .i64 o) ∧ W.cell? ⟨b, off + k * 4 + 1, none⟩ = some (.string ⟨A.toArray⟩) ∧ W.cell? ⟨b, off + k * 4 + 2, none⟩ = some (.string ⟨B.toArray⟩) ∧ W.cell? ⟨b, off + k * 4 + 3, none⟩ = some (.string ⟨D.toArray⟩)) := by
        intro W h
        obtain ⟨⟨y0, y1, y2, y3⟩, _⟩ := (bF.next h).four
        obtain ⟨c0, c1, c2, c3⟩ := HX0.out.below (hbw.trans (h.mono hbw.size)) hbl
        exact ⟨y0, y1, y2, y3, c0, c1, c2, c3⟩
      clear hkit hok hnx1 hnx2 HF HR HM HO HSZ hx0 hs3
      have HND := Lib.hid nF
      have HOO := Lib.hid oO
      have HMM := Lib.hid hM
      have HLT := Lib.hid hlto
      have HBF := Lib.hid bF
      have HBR := Lib.hid bR
      clear nF oO hM hlto bF bR
      have hq0 : Below wr.heap.size wr wr.drew := (Below.refl _ _).drew
      go_upto_region 5 with fail
      (refine wp_region_held_drew (S := (fun W => W.cell? ⟨w.heap.size, 0, none⟩ = some (.int .i64 mi) ∧ W.cell? ⟨w.heap.size, 1, none⟩ = some (.int .i64 mb) ∧ W.cell? ⟨w.heap.size, 2, none⟩ = some (.int .i64 nx) ∧ W.cell? ⟨w.heap.size, 3, none⟩ = some (.slice ay l.length cy) ∧ W.cell? ⟨b, off + k * 4, none⟩ = some (.int .i64 o) ∧ W.cell? ⟨b, off + k * 4 + 1, none⟩ = some (.string ⟨A.toArray⟩) ∧ W.cell? ⟨b, off + k * 4 + 2, none⟩ = some (.string ⟨B.toArray⟩) ∧ W.cell? ⟨b, off + k * 4 + 3, none⟩ = some (.string ⟨D.toArray⟩))) (by kernel_rfl) (HMK _ hq0) (fun hHeld => ?_))
      (refine heldTake 0 (some 19) (v := ?_) rfl rfl (by kernel_rfl) (by kernel_rfl) (by kernel_rfl) (fun _ _ _ h => h) (by rfl) ?_ (by assumption) ?_; rotate_left; (focus (intro w hSw; (try dsimp only at hSw); go_simp; try with_reducible rfl)); (try simp only [Act.put, List.setIfInBounds_toArray, List.set_cons_zero, List.set_cons_succ]))
      (refine heldTake 1 (some 20) (v := ?_) rfl rfl (by kernel_rfl) (by kernel_rfl) (by kernel_rfl) (fun _ _ _ h => h) (by rfl) ?_ (by assumption) ?_; rotate_left; (focus (intro w hSw; (try dsimp only at hSw); go_simp; try with_reducible rfl)); (try simp only [Act.put, List.setIfInBounds_toArray, List.set_cons_zero, List.set_cons_succ]))
      (refine heldTake 2 (some 21) (v := ?_) rfl rfl (by kernel_rfl) (by kernel_rfl) (by kernel_rfl) (fun _ _ _ h => h) (by rfl) ?_ (by assumption) ?_; rotate_left; (focus (intro w hSw; (try dsimp only at hSw); go_simp; try with_reducible rfl)); (try simp only [Act.put, List.setIfInBounds_toArray, List.set_cons_zero, List.set_cons_succ]))
      (refine heldTake 3 (some 22) (v := ?_) rfl rfl (by kernel_rfl) (by kernel_rfl) (by kernel_rfl) (fun _ _ _ h => h) (by rfl) ?_ (by assumption) ?_; rotate_left; (focus (intro w hSw; (try dsimp only at hSw); go_simp; try with_reducible rfl)); (try simp only [Act.put, List.setIfInBounds_toArray, List.set_cons_zero, List.set_cons_succ]))
      (refine heldTake 4 (some 23) (v := ?_) rfl rfl (by kernel_rfl) (by kernel_rfl) (by kernel_rfl) (fun _ _ _ h => h) (by rfl) ?_ (by assumption) ?_; rotate_left; (focus (intro w hSw; (try dsimp only at hSw); go_simp; try with_reducible rfl)); (try simp only [Act.put, List.setIfInBounds_toArray, List.set_cons_zero, List.set_cons_succ]))
      (refine heldTake 5 (some 24) (v := ?_) rfl rfl (by kernel_rfl) (by kernel_rfl) (by kernel_rfl) (fun _ _ _ h => h) (by rfl) ?_ (by assumption) ?_; rotate_left; (focus (intro w hSw; (try dsimp only at hSw); go_simp; try with_reducible rfl)); (try simp only [Act.put, List.setIfInBounds_toArray, List.set_cons_zero, List.set_cons_succ]))
      (refine wpAnyH_ready (rs := [6, 10]) (by kernel_rfl) (by simp) ?_; refine AllReadyH.cons rfl (fun K hK => ?_) (AllReadyH.cons rfl (fun K hK => ?_) AllReadyH.nil))
      · (go_simp; go_at_call 16; refine (HDo.out _ (HND.out.below hq0)).mono ?_; rintro e w3 ⟨y3, ev, e1, e2, rfl, hM3, b3⟩; have hRan2 := ran_next HCK.out HRan.out ev e1 e2; generalize doF mi mb (nx, l) base ⟨o, A, B, D⟩ ev e1 e2 = Z at *; obtain ⟨⟨nx3, l3⟩, q3⟩ := Z; dsimp only at hM3 hRan2; obtain ⟨a3, c3', rfl⟩ := nds_slice (hM3.now (HND.out.below hq0) b3); have hq1 := hq0.trans (b3.mono hq0.size); (try dsimp only); refine hK.out _ _ (HMK _ hq1) (fun hHeld => ?_); clear hK K; (try simp only [Act.put, List.setIfInBounds_toArray, List.set_cons_zero, List.set_cons_succ]))
        (refine heldTake 7 (some 18) (v := ?_) rfl rfl (by kernel_rfl) (by kernel_rfl) (by kernel_rfl) (fun _ _ _ h => h) (by rfl) ?_ (by assumption) ?_; rotate_left; (focus (intro w hSw; (try dsimp only at hSw); go_simp; try with_reducible rfl)); (try simp only [Act.put, List.setIfInBounds_toArray, List.set_cons_zero, List.set_cons_succ]))
        (refine heldTake 8 (some 26) (v := ?_) rfl rfl (by kernel_rfl) (by kernel_rfl) (by kernel_rfl) (fun _ _ _ h => h) (by rfl) ?_ (by assumption) ?_; rotate_left; (focus (intro w hSw; (try dsimp only at hSw); go_simp; try with_reducible rfl)); (try simp only [Act.put, List.setIfInBounds_toArray, List.set_cons_zero, List.set_cons_succ]))
        (refine heldTake 9 (some 27) (v := ?_) rfl rfl (by kernel_rfl) (by kernel_rfl) (by kernel_rfl) (fun _ _ _ h => h) (by rfl) ?_ (by assumption) ?_; rotate_left; (focus (intro w hSw; (try dsimp only at hSw); go_simp; try with_reducible rfl)); (try simp only [Act.put, List.setIfInBounds_toArray, List.set_cons_zero, List.set_cons_succ]))
        have s3 := alloc_below w3 (.cells (fsC 0 0 0 (.slice none 0 0)) 28)
        have hq2 := hq1.trans (s3.mono hq1.size)
        (refine wpAnyH_ready (rs := [10]) (by kernel_rfl) (by simp) ?_; refine AllReadyH.cons rfl (fun K hK => ?_) AllReadyH.nil; go_simp; skip; (try dsimp only); refine hK.out _ _ (HMK _ hq2) (fun hHeld => ?_); clear hK K; (try simp only [Act.put, List.setIfInBounds_toArray, List.set_cons_zero, List.set_cons_succ]))
        have bG := Blk.new w3 28 (fsC mi mb nx3 (.slice a3 l3.length c3'))
        have s4 := alloc_below w3 (.cells (fsC mi mb nx3 (.slice a3 l3.length c3')) 28)
        have hq3 := hq1.trans (s4.mono hq1.size)
        (refine wpAnyH_ready (rs := [11]) (by kernel_rfl) (by simp) ?_; refine AllReadyH.cons rfl (fun K hK => ?_) AllReadyH.nil; go_simp; skip; (try dsimp only); refine hK.out _ _ (HMK _ hq3) (fun hHeld => ?_); clear hK K; (try simp only [Act.put, List.setIfInBounds_toArray, List.set_cons_zero, List.set_cons_succ]))
        (refine heldTake 12 (some 11) (v := ?_) rfl rfl (by kernel_rfl) (by kernel_rfl) (by kernel_rfl) (fun _ _ _ h => h) (by rfl) ?_ (by assumption) ?_; rotate_left; (focus (intro w hSw; (try dsimp only at hSw); go_simp; try with_reducible rfl)); (try simp only [Act.put, List.setIfInBounds_toArray, List.set_cons_zero, List.set_cons_succ]))
        refine wpAnyH_done (by kernel_rfl) ?_ _
        have hF4 := HBF.out.next hq3
        have hR4 := HBR.out.next hq3
        have hM4 := ((HMM.out.kept (Kept.of_below hq0)).call hM3 b3 (fun g hg => Nat.lt_of_lt_of_le (HLT.out g hg) hq0.size) (Nat.le_trans hSr hq0.size)).kept (Kept.of_below s4)
        have oO4 := own_keep HOO.out hq3
        have hB4 := hbw.trans (hq3.mono hbw.size)
        have hS4 := Nat.le_trans hSr hq3.size
        have hFl4 := hF4.lt
        have HR2 := Lib.hid hRan2
        clear hRan2 hM3 HMK HND HOO HMM HLT HBF HBR HDo HX0 HCK HRan hq0 hq1 hq3 b3 s4
        generalize w3.alloc (.cells (fsC mi mb nx3 (.slice a3 l3.length c3')) 28) = w4 at *
        obtain ⟨⟨g0, g1, g2, g3⟩, _⟩ := bG.four
        obtain ⟨⟨p0, p1, p2, p3⟩, e0, e1', e2', e3⟩ := hF4.four
        obtain ⟨w5, hw5, bF5, hg5⟩ := hF4.put4 (.int .i64 mi) (.int .i64 mb) (.int .i64 nx3) (.slice a3 l3.length c3')
        have bR5 := hR4.kept hg5 (by simp)
        have oO5 := oO4.kept hg5 (own_not oO4 (by omega))
        have hB5 := below_grown hB4 hg5 (Nat.le_refl _) (Nat.le_refl _)
        have hM5 := hM4.kept (Kept.grown hg5 (by omega))
        have hS5 := Nat.le_trans hS4 hg5.size
        clear hg5
        go_wp2_with (at_builtin; refine wpList_append_here rfl (.tmp 29) (.tmp 31) 33 3 rfl Tryz.underlying33 hi hz0 hz1 hz2 rfl (by decide) (by decide) (w.heap.size + 2) (v := .slice av es.length cv) #[.int .i64 q3] 1 rfl rfl oO5 rfl (by simp [Value.oneCell']) (by omega) hS5 ?_; intro v6 w6 hown6 hgr6 hnew6)
        have bF6 := (bF5.alloc (.cells #[.int .i64 q3] 3)).kept hgr6 (own_ne_some oO5 (by omega))
        have bR6 := (bR5.alloc (.cells #[.int .i64 q3] 3)).kept hgr6 (own_ne_some oO5 (by omega))
        have hB6 := (hB5.alloc hB5.size (.cells #[.int .i64 q3] 3)).grown hgr6 (by have := hB5.size; simp; omega) (fun g hg => by have := (oO5.lt g hg).1; omega)
        have hM6 := hM5.row hgr6 hnew6
        have hS6 : w.heap.size + 2 ≤ w6.heap.size := Nat.le_trans (Nat.le_trans hS5 (by simp)) hgr6.size
        clear hgr6 hnew6 bF5 bR5 hB5 hM5 oO5 hS5
        go_roundg G
        case rel => exact ⟨k + 1, .slice a3 l3.length c3', (nx3, l3), es ++ [q3], by omega, by go_num, hB6, bF6, bR6, hM6, by (show World.ownsRow _ _ _ _ _ _ _); rw [List.length_append]; simpa [intsV] using hown6, HR2.out, hS6⟩
        case measure => omega
      · have s0 := alloc_below wr.drew (.cells (fsC 0 0 0 (.slice none 0 0)) 28)
        have hq1 := hq0.trans (s0.mono hq0.size)
        (go_simp; skip; (try dsimp only); refine hK.out _ _ (HMK _ hq1) (fun hHeld => ?_); clear hK K; (try simp only [Act.put, List.setIfInBounds_toArray, List.set_cons_zero, List.set_cons_succ]))
        (refine wpAnyH_ready (rs := [6]) (by kernel_rfl) (by simp) ?_; refine AllReadyH.cons rfl (fun K hK => ?_) AllReadyH.nil; go_simp; go_at_call 16; refine (HDo.out _ (HND.out.below hq1)).mono ?_; rintro e w3 ⟨y3, ev, e1, e2, rfl, hM3, b3⟩; have hRan2 := ran_next HCK.out HRan.out ev e1 e2; generalize doF mi mb (nx, l) base ⟨o, A, B, D⟩ ev e1 e2 = Z at *; obtain ⟨⟨nx3, l3⟩, q3⟩ := Z; dsimp only at hM3 hRan2; obtain ⟨a3, c3', rfl⟩ := nds_slice (hM3.now (HND.out.below hq1) b3); have hq2 := hq1.trans (b3.mono hq1.size); (try dsimp only); refine hK.out _ _ (HMK _ hq2) (fun hHeld => ?_); clear hK K; (try simp only [Act.put, List.setIfInBounds_toArray, List.set_cons_zero, List.set_cons_succ]))
        (refine heldTake 7 (some 18) (v := ?_) rfl rfl (by kernel_rfl) (by kernel_rfl) (by kernel_rfl) (fun _ _ _ h => h) (by rfl) ?_ (by assumption) ?_; rotate_left; (focus (intro w hSw; (try dsimp only at hSw); go_simp; try with_reducible rfl)); (try simp only [Act.put, List.setIfInBounds_toArray, List.set_cons_zero, List.set_cons_succ]))
        (refine heldTake 8 (some 26) (v := ?_) rfl rfl (by kernel_rfl) (by kernel_rfl) (by kernel_rfl) (fun _ _ _ h => h) (by rfl) ?_ (by assumption) ?_; rotate_left; (focus (intro w hSw; (try dsimp only at hSw); go_simp; try with_reducible rfl)); (try simp only [Act.put, List.setIfInBounds_toArray, List.set_cons_zero, List.set_cons_succ]))
        (refine heldTake 9 (some 27) (v := ?_) rfl rfl (by kernel_rfl) (by kernel_rfl) (by kernel_rfl) (fun _ _ _ h => h) (by rfl) ?_ (by assumption) ?_; rotate_left; (focus (intro w hSw; (try dsimp only at hSw); go_simp; try with_reducible rfl)); (try simp only [Act.put, List.setIfInBounds_toArray, List.set_cons_zero, List.set_cons_succ]))
        have bG0 : Blk w3 wr.heap.size 28 (fsC 0 0 0 (.slice none 0 0)) := (Blk.new wr.drew 28 (fsC 0 0 0 (.slice none 0 0))).next b3
        obtain ⟨⟨z0, z1, z2, z3⟩, h0, h1, h2, h3⟩ := bG0.four
        obtain ⟨w4, hw4, bG, hg3⟩ := bG0.put4 (.int .i64 mi) (.int .i64 mb) (.int .i64 nx3) (.slice a3 l3.length c3')
        have hq3 := below_grown hq2 hg3 (Nat.le_refl _) hq0.size
        (refine wpAnyH_ready (rs := [11]) (by kernel_rfl) (by simp) ?_; refine AllReadyH.cons rfl (fun K hK => ?_) AllReadyH.nil; go_simp; skip; (try dsimp only); refine hK.out _ _ (HMK _ hq3) (fun hHeld => ?_); clear hK K; (try simp only [Act.put, List.setIfInBounds_toArray, List.set_cons_zero, List.set_cons_succ]))
        (refine heldTake 12 (some 11) (v := ?_) rfl rfl (by kernel_rfl) (by kernel_rfl) (by kernel_rfl) (fun _ _ _ h => h) (by rfl) ?_ (by assumption) ?_; rotate_left; (focus (intro w hSw; (try dsimp only at hSw); go_simp; try with_reducible rfl)); (try simp only [Act.put, List.setIfInBounds_toArray, List.set_cons_zero, List.set_cons_succ]))
        refine wpAnyH_done (by kernel_rfl) ?_ _
        have hF4 := HBF.out.next hq3
        have hR4 := HBR.out.next hq3
        have hM4 := HMM.out.call2 hM3 hq1 b3 HLT.out hSr hq0.size (by simp) hg3
        have oO4 := own_keep HOO.out hq3
        have hB4 := hbw.trans (hq3.mono hbw.size)
        have hS4 := Nat.le_trans hSr hq3.size
        have hFl4 := hF4.lt
        have HR2 := Lib.hid hRan2
        clear hRan2 hM3 HMK HND HOO HMM HLT HBF HBR HDo HX0 HCK HRan hq0 hq1 hq2 hq3 b3 hg3 hw4 z0 z1 z2 z3 h0 h1 h2 h3 bG0
        obtain ⟨⟨g0, g1, g2, g3⟩, _⟩ := bG.four
        obtain ⟨⟨p0, p1, p2, p3⟩, e0, e1', e2', e3⟩ := hF4.four
        obtain ⟨w5, hw5, bF5, hg5⟩ := hF4.put4 (.int .i64 mi) (.int .i64 mb) (.int .i64 nx3) (.slice a3 l3.length c3')
        have bR5 := hR4.kept hg5 (by simp)
        have oO5 := oO4.kept hg5 (own_not oO4 (by omega))
        have hB5 := below_grown hB4 hg5 (Nat.le_refl _) (Nat.le_refl _)
        have hM5 := hM4.kept (Kept.grown hg5 (by omega))
        have hS5 := Nat.le_trans hS4 hg5.size
        clear hg5
        go_wp2_with (at_builtin; refine wpList_append_here rfl (.tmp 29) (.tmp 31) 33 3 rfl Tryz.underlying33 hi hz0 hz1 hz2 rfl (by decide) (by decide) (w.heap.size + 2) (v := .slice av es.length cv) #[.int .i64 q3] 1 rfl rfl oO5 rfl (by simp [Value.oneCell']) (by omega) hS5 ?_; intro v6 w6 hown6 hgr6 hnew6)
        have bF6 := (bF5.alloc (.cells #[.int .i64 q3] 3)).kept hgr6 (own_ne_some oO5 (by omega))
        have bR6 := (bR5.alloc (.cells #[.int .i64 q3] 3)).kept hgr6 (own_ne_some oO5 (by omega))
        have hB6 := (hB5.alloc hB5.size (.cells #[.int .i64 q3] 3)).grown hgr6 (by have := hB5.size; simp; omega) (fun g hg => by have := (oO5.lt g hg).1; omega)
        have hM6 := hM5.row hgr6 hnew6
        have hS6 : w.heap.size + 2 ≤ w6.heap.size := Nat.le_trans (Nat.le_trans hS5 (by simp)) hgr6.size
        clear hgr6 hnew6 bF5 bR5 hB5 hM5 oO5 hS5
        go_roundg G
        case rel => exact ⟨k + 1, .slice a3 l3.length c3', (nx3, l3), es ++ [q3], by omega, by go_num, hB6, bF6, bR6, hM6, by (show World.ownsRow _ _ _ _ _ _ _); rw [List.length_append]; simpa [intsV] using hown6, HR2.out, hS6⟩
        case measure => omega
    · obtain rfl : k = cs.length := by omega
      have nF : Nds wr y l := HM.out.now (HV.out.below hbw)
      obtain ⟨ay, cy, rfl⟩ := nds_slice nF
      replace HF : Hid (Blk wr w.heap.size 28 (fsC mi mb nx (.slice ay l.length cy))) := HF
      have hRl := HR.out.lt
      obtain ⟨⟨p0, p1, p2, p3⟩, _⟩ := HF.out.four
      obtain ⟨⟨r0, r1, r2, r3⟩, e0, e1, e2, e3⟩ := HR.out.four
      obtain ⟨W', hW', hb4, hg4⟩ := HR.out.put4 (.int .i64 mi) (.int .i64 mb) (.int .i64 nx) (.slice ay l.length cy)
      have hbl := below_grown hbw hg4 (Nat.le_refl _) (by omega)
      have hO' := own_base (HO.out.kept hg4 (own_not HO.out (by omega))) (base' := w.heap.size) (by omega)
      have hM' := HM.out.out (n := w.heap.size) (Kept.grown hg4 (by omega)) (by omega)
      have HRan' := HRan
      obtain ⟨av, cv, rfl⟩ := own_slice HO.out
      clear nF
      go_wp2
      obtain ⟨⟨y0, y1, y2, y3⟩, _⟩ := hb4.four
      refine bodyPost_ret (v := .tuple #[.agg (fsC mi mb nx (.slice ay l.length cy)), .slice av es.length cv]) (by simp [results, Tryz.f11, go_sem, y0, y1, y2, y3]) rfl ?_
      refine ⟨.slice ay l.length cy, .slice av es.length cv, ?_⟩
      exact ⟨nx, rfl, l, hM', es, hO', HRan'.out, hbl⟩
end Go.Proofs.YtkdmfeikikmiiaaGreat
