import Derived.Test.YtdgedcfenpmaoaaGreatQMWalkD05
import Derived.Test.YtdgedcfenpmaoaaGreatQMWalkA12
import Derived.Test.YtdgedcfenpmaoaaGreatQMWalkD11
set_option linter.unusedVariables false
set_option linter.unusedSimpArgs false
/- Walks: the document's Unlink and Rmdir. -/
set_option linter.unusedVariables false
set_option linter.unusedSimpArgs false
namespace Go.Proofs.YtdgedcfenpmaoaaGreat
open Go.RowKit

set_option maxHeartbeats 8000000 in
set_option maxRecDepth 100000 in
theorem refUnlink_any (mi mb nx : Int) (l : List Nd) (base p : List UInt8) (v : Value) (w : World) (hv : Nds w v l) (hf : Fit l) (hb : base.length ≤ 100000) (hp : p.length ≤ 100000) (hln : ∀ i, 0 ≤ (getN l i).links ∧ (getN l i).links ≤ 1000000) :
    Calls Tryz.prog 15 #[.agg (fsC mi mb nx v), .string ⟨base.toArray⟩, .string ⟨p.toArray⟩] w fun e w' => ∃ y ev, e = .returned (.tuple #[.agg (fsC mi mb nx y), .int .i64 (unlinkF l base p ev).2]) ∧ MadeFs w v l w' y (unlinkF l base p ev).1 ∧ Below w.heap.size w w' := by
  obtain ⟨a, ca, rfl⟩ := nds_slice hv
  have bF := (Blk.new w 24 (fsC mi mb nx (.slice a l.length ca))).alloc (.cells (fsC 0 0 0 (.slice none 0 0)) 24)
  have bR := Blk.new (w.alloc (.cells (fsC mi mb nx (.slice a l.length ca)) 24)) 24 (fsC 0 0 0 (.slice none 0 0))
  have hB := ((Below.refl w.heap.size w).alloc (Nat.le_refl _) (.cells (fsC mi mb nx (.slice a l.length ca)) 24)).alloc (by simp) (.cells (fsC 0 0 0 (.slice none 0 0)) 24)
  simp only [World.size_alloc] at bR
  have HV := Lib.hid hv
  have hda : ∀ i, (getN l i).data.length ≤ 5000 := fun i => (calm_get hf.calm i).2.2.1
  have hSk := refSeek_any mi mb nx l base p false _ _ (hv.below hB) hda hb hp
  have hF : ∀ ev, unlinkF l base p ev = unlinkF l base p ev := fun _ => rfl
  conv at hF => enter [ev]; rhs; unfold unlinkF
  have hUn := fun w' (h : Nds w' (.slice a l.length ca) l) => refUnname_any mi mb nx l (seekP l base p false).1 _ w' h hf.calm.rise ((rightB_iff _).1 (calm_get hf.calm _).1).2 (calm_get hf.calm _).2.1 hf.calm.len (by have := hln (seekP l base p false).1.ino; omega)
  have hGX := fun w' (h : Nds w' (.slice a l.length ca) l) => refGetT_any mi mb nx (seekP l base p false).1.ino l _ w' h
  have hEX := (calm_get hf.calm (seekP l base p false).1.ino).2.1
  have hxs := get_slice hv (seekP l base p false).1.ino
  have hEG := fun W (h : EntsAll W l) => get_ents h (seekP l base p false).1.ino
  generalize seekP l base p false = Q at *
  obtain ⟨⟨qa, qb, qc⟩, qe⟩ := Q
  dsimp only at hF hSk hUn hGX hEX hxs hEG
  have HF := Lib.hid hF
  clear hF hv hda hln
  obtain ⟨⟨p0, p1, p2, p3⟩, _⟩ := bF.four
  go_enter Tryz.func15, Tryz.ntmps15
  go_wp2_with fail
  refine hSk.mono ?_
  rintro e w1 ⟨rfl, b1⟩
  clear hSk p0 p1 p2 p3
  have b2 := b1.trans ((alloc_below w1 (.cells (spC ⟨qa, qb, qc⟩) 37)).mono b1.size)
  have bS := Blk.new w1 37 (spC ⟨qa, qb, qc⟩)
  replace bF := bF.next b2
  replace bR := bR.next b2
  replace hB := hB.trans (b2.mono hB.size)
  clear b1 b2
  obtain ⟨⟨p0, p1, p2, p3⟩, _⟩ := bF.four
  obtain ⟨⟨s0, s1, s2⟩, _⟩ := bS.three
  dsimp only at s0 s1 s2
  by_cases he : qe = 0
  case neg =>
    have HN : Hid (∀ ev, unlinkF l base p ev = (l, qe)) := fun ev => by rw [HF.out ev, if_pos he]
    clear HF hUn hGX hEX hxs hEG
    obtain ⟨⟨r0, r1, r2, r3⟩, e0, e1, e2, e3⟩ := bR.four
    obtain ⟨W', hW', hb4, hg4⟩ := bR.put4 (.int .i64 mi) (.int .i64 mb) (.int .i64 nx) (.slice a l.length ca)
    have hbl := below_grown hB hg4 (Nat.le_refl _) (by omega)
    go_wp2
    obtain ⟨⟨y0, y1, y2, y3⟩, _⟩ := hb4.four
    refine bodyPost_ret (v := .tuple #[.agg (fsC mi mb nx (.slice a l.length ca)), .int .i64 qe]) (by simp [results, Tryz.f15, go_sem, y0, y1, y2, y3]) rfl ?_
    exact ⟨_, .slice none 0 0, by rw [HN.out], by rw [HN.out]; exact MadeFs.same _ _ _ _, hbl⟩
  subst he
  by_cases hc : qc = 0
  case pos =>
    have HN : Hid (∀ ev, unlinkF l base p ev = (l, 1)) := fun ev => by rw [HF.out ev, if_neg (by simp), if_pos hc]
    clear HF hUn hGX hEX hxs hEG
    subst hc
    obtain ⟨⟨r0, r1, r2, r3⟩, e0, e1, e2, e3⟩ := bR.four
    obtain ⟨W', hW', hb4, hg4⟩ := bR.put4 (.int .i64 mi) (.int .i64 mb) (.int .i64 nx) (.slice a l.length ca)
    have hbl := below_grown hB hg4 (Nat.le_refl _) (by omega)
    go_wp2
    obtain ⟨⟨y0, y1, y2, y3⟩, _⟩ := hb4.four
    refine bodyPost_ret (v := .tuple #[.agg (fsC mi mb nx (.slice a l.length ca)), .int .i64 1]) (by simp [results, Tryz.f15, go_sem, y0, y1, y2, y3]) rfl ?_
    exact ⟨_, .slice none 0 0, by rw [HN.out], by rw [HN.out]; exact MadeFs.same _ _ _ _, hbl⟩
  replace HF : Hid _ := fun ev => by have := HF.out ev; rw [if_neg (by simp), if_neg hc] at this; exact this
  have hG := hGX _ (HV.out.below hB)
  clear hGX
  generalize getN l qc = X at *
  generalize hasN l qc = hs1 at *
  obtain ⟨xi, xk, xl, xd, xp, xe, xn⟩ := X
  dsimp only at hxs hEX HF hEG
  obtain ⟨ax, nxx, cx, rfl⟩ := hxs
  have HEG := Lib.hid hEG
  clear hEG
  go_wp2_with fail
  refine hG.mono ?_
  rintro e w2 ⟨rfl, b1⟩
  clear hG p0 p1 p2 p3 s0 s1 s2
  have b2 := b1.trans ((alloc_below w2 (.cells (ndC ⟨xi, xk, xl, xd, xp, .slice ax nxx cx, xn⟩) 42)).mono b1.size)
  have bX := Blk.new w2 42 (ndC ⟨xi, xk, xl, xd, xp, .slice ax nxx cx, xn⟩)
  replace bF := bF.next b2
  replace bS := bS.next b2
  replace bR := bR.next b2
  replace hB := hB.trans (b2.mono hB.size)
  clear b1 b2
  have hxn : nxx = xn.length := by
    obtain ⟨a2, c2, e2, _⟩ := HEG.out _ (HV.out.below hB).all
    simp only [Value.slice.injEq] at e2
    exact e2.2.1
  subst hxn
  obtain ⟨⟨p0, p1, p2, p3⟩, _⟩ := bF.four
  obtain ⟨⟨s0, s1, s2⟩, _⟩ := bS.three
  obtain ⟨⟨x0, x1, x2, x3, x4, x5⟩, _⟩ := bX.six
  dsimp only at s0 s1 s2 x0 x1 x2 x3 x4 x5
  by_cases hk : xk = 2
  case pos =>
    have HN : Hid (∀ ev, unlinkF l base p ev = (l, 4)) := fun ev => by rw [HF.out ev, if_pos hk]
    clear HF hUn
    subst hk
    obtain ⟨⟨r0, r1, r2, r3⟩, e0, e1, e2, e3⟩ := bR.four
    obtain ⟨W', hW', hb4, hg4⟩ := bR.put4 (.int .i64 mi) (.int .i64 mb) (.int .i64 nx) (.slice a l.length ca)
    have hbl := below_grown hB hg4 (Nat.le_refl _) (by omega)
    go_wp2
    obtain ⟨⟨y0, y1, y2, y3⟩, _⟩ := hb4.four
    refine bodyPost_ret (v := .tuple #[.agg (fsC mi mb nx (.slice a l.length ca)), .int .i64 4]) (by simp [results, Tryz.f15, go_sem, y0, y1, y2, y3]) rfl ?_
    exact ⟨_, .slice none 0 0, by rw [HN.out], by rw [HN.out]; exact MadeFs.same _ _ _ _, hbl⟩
  replace HF : Hid _ := fun ev => by have := HF.out ev; rw [if_neg hk] at this; exact this
  go_wp2_with fail
  refine (hUn _ (HV.out.below hB)).mono ?_
  rintro e w3 ⟨y, ev, rfl, hN, b3⟩
  obtain ⟨ay, cy, rfl⟩ := nds_slice (hN.now (HV.out.below hB) b3)
  have HN := Lib.hid (HF.out ev)
  generalize unL l qa qb qc ev = Z at *
  have hRl := bR.lt
  have hsz := hB.size
  clear hUn HF p0 p1 p2 p3 s0 s1 s2 x0 x1 x2 x3 x4 x5
  have bR3 := bR.next b3
  have hB3 := hB.trans (b3.mono hB.size)
  obtain ⟨⟨r0, r1, r2, r3⟩, e0, e1, e2, e3⟩ := bR3.four
  obtain ⟨W', hW', hb4, hg4⟩ := bR3.put4 (.int .i64 mi) (.int .i64 mb) (.int .i64 nx) (.slice ay Z.length cy)
  have hbl := below_grown hB3 hg4 (Nat.le_refl _) (by omega)
  have hM := hN.up (w := w) (w' := W') hsz (Kept.grown hg4 hRl)
  go_wp2
  obtain ⟨⟨y0, y1, y2, y3⟩, _⟩ := hb4.four
  refine bodyPost_ret (v := .tuple #[.agg (fsC mi mb nx (.slice ay Z.length cy)), .int .i64 0]) (by simp [results, Tryz.f15, go_sem, y0, y1, y2, y3]) rfl ?_
  exact ⟨_, ev, by rw [HN.out], by rw [HN.out]; exact hM, hbl⟩

set_option maxHeartbeats 8000000 in
set_option maxRecDepth 100000 in
theorem refRmdir_any (mi mb nx : Int) (l : List Nd) (base p : List UInt8) (v : Value) (w : World) (hv : Nds w v l) (hf : Fit l) (hb : base.length ≤ 100000) (hp : p.length ≤ 100000) (hln : ∀ i, 0 ≤ (getN l i).links ∧ (getN l i).links ≤ 1000000) :
    Calls Tryz.prog 17 #[.agg (fsC mi mb nx v), .string ⟨base.toArray⟩, .string ⟨p.toArray⟩] w fun e w' => ∃ y ev, e = .returned (.tuple #[.agg (fsC mi mb nx y), .int .i64 (rmdirF l base p ev).2]) ∧ MadeFs w v l w' y (rmdirF l base p ev).1 ∧ Below w.heap.size w w' := by
  obtain ⟨a, ca, rfl⟩ := nds_slice hv
  have bF := (Blk.new w 24 (fsC mi mb nx (.slice a l.length ca))).alloc (.cells (fsC 0 0 0 (.slice none 0 0)) 24)
  have bR := Blk.new (w.alloc (.cells (fsC mi mb nx (.slice a l.length ca)) 24)) 24 (fsC 0 0 0 (.slice none 0 0))
  have hB := ((Below.refl w.heap.size w).alloc (Nat.le_refl _) (.cells (fsC mi mb nx (.slice a l.length ca)) 24)).alloc (by simp) (.cells (fsC 0 0 0 (.slice none 0 0)) 24)
  simp only [World.size_alloc] at bR
  have HV := Lib.hid hv
  have hda : ∀ i, (getN l i).data.length ≤ 5000 := fun i => (calm_get hf.calm i).2.2.1
  have hSk := refSeek_any mi mb nx l base p false _ _ (hv.below hB) hda hb hp
  have hF : ∀ ev, rmdirF l base p ev = rmdirF l base p ev := fun _ => rfl
  conv at hF => enter [ev]; rhs; unfold rmdirF
  have hUn := fun w' (h : Nds w' (.slice a l.length ca) l) => refUnname_any mi mb nx l (seekP l base p false).1 _ w' h hf.calm.rise ((rightB_iff _).1 (calm_get hf.calm _).1).2 (calm_get hf.calm _).2.1 hf.calm.len (by have := hln (seekP l base p false).1.ino; omega)
  have hGX := fun w' (h : Nds w' (.slice a l.length ca) l) => refGetT_any mi mb nx (seekP l base p false).1.ino l _ w' h
  have hEX := (calm_get hf.calm (seekP l base p false).1.ino).2.1
  have hxs := get_slice hv (seekP l base p false).1.ino
  have hEG := fun W (h : EntsAll W l) => get_ents h (seekP l base p false).1.ino
  generalize seekP l base p false = Q at *
  obtain ⟨⟨qa, qb, qc⟩, qe⟩ := Q
  dsimp only at hF hSk hUn hGX hEX hxs hEG
  have HF := Lib.hid hF
  clear hF hv hda hln
  obtain ⟨⟨p0, p1, p2, p3⟩, _⟩ := bF.four
  go_enter Tryz.func17, Tryz.ntmps17
  go_wp2_with fail
  refine hSk.mono ?_
  rintro e w1 ⟨rfl, b1⟩
  clear hSk p0 p1 p2 p3
  have b2 := b1.trans ((alloc_below w1 (.cells (spC ⟨qa, qb, qc⟩) 37)).mono b1.size)
  have bS := Blk.new w1 37 (spC ⟨qa, qb, qc⟩)
  replace bF := bF.next b2
  replace bR := bR.next b2
  replace hB := hB.trans (b2.mono hB.size)
  clear b1 b2
  obtain ⟨⟨p0, p1, p2, p3⟩, _⟩ := bF.four
  obtain ⟨⟨s0, s1, s2⟩, _⟩ := bS.three
  dsimp only at s0 s1 s2
  by_cases he : qe = 0
  case neg =>
    have HN : Hid (∀ ev, rmdirF l base p ev = (l, qe)) := fun ev => by rw [HF.out ev, if_pos he]
    clear HF hUn hGX hEX hxs hEG
    obtain ⟨⟨r0, r1, r2, r3⟩, e0, e1, e2, e3⟩ := bR.four
    obtain ⟨W', hW', hb4, hg4⟩ := bR.put4 (.int .i64 mi) (.int .i64 mb) (.int .i64 nx) (.slice a l.length ca)
    have hbl := below_grown hB hg4 (Nat.le_refl _) (by omega)
    go_wp2
    obtain ⟨⟨y0, y1, y2, y3⟩, _⟩ := hb4.four
    refine bodyPost_ret (v := .tuple #[.agg (fsC mi mb nx (.slice a l.length ca)), .int .i64 qe]) (by simp [results, Tryz.f17, go_sem, y0, y1, y2, y3]) rfl ?_
    exact ⟨_, .slice none 0 0, by rw [HN.out], by rw [HN.out]; exact MadeFs.same _ _ _ _, hbl⟩
  subst he
  by_cases hc : qc = 0
  case pos =>
    have HN : Hid (∀ ev, rmdirF l base p ev = (l, 1)) := fun ev => by rw [HF.out ev, if_neg (by simp), if_pos hc]
    clear HF hUn hGX hEX hxs hEG
    subst hc
    obtain ⟨⟨r0, r1, r2, r3⟩, e0, e1, e2, e3⟩ := bR.four
    obtain ⟨W', hW', hb4, hg4⟩ := bR.put4 (.int .i64 mi) (.int .i64 mb) (.int .i64 nx) (.slice a l.length ca)
    have hbl := below_grown hB hg4 (Nat.le_refl _) (by omega)
    go_wp2
    obtain ⟨⟨y0, y1, y2, y3⟩, _⟩ := hb4.four
    refine bodyPost_ret (v := .tuple #[.agg (fsC mi mb nx (.slice a l.length ca)), .int .i64 1]) (by simp [results, Tryz.f17, go_sem, y0, y1, y2, y3]) rfl ?_
    exact ⟨_, .slice none 0 0, by rw [HN.out], by rw [HN.out]; exact MadeFs.same _ _ _ _, hbl⟩
  replace HF : Hid _ := fun ev => by have := HF.out ev; rw [if_neg (by simp), if_neg hc] at this; exact this
  have hG := hGX _ (HV.out.below hB)
  clear hGX
  generalize getN l qc = X at *
  generalize hasN l qc = hs1 at *
  obtain ⟨xi, xk, xl, xd, xp, xe, xn⟩ := X
  dsimp only at hxs hEX HF hEG
  obtain ⟨ax, nxx, cx, rfl⟩ := hxs
  have HEG := Lib.hid hEG
  clear hEG
  go_wp2_with fail
  refine hG.mono ?_
  rintro e w2 ⟨rfl, b1⟩
  clear hG p0 p1 p2 p3 s0 s1 s2
  have b2 := b1.trans ((alloc_below w2 (.cells (ndC ⟨xi, xk, xl, xd, xp, .slice ax nxx cx, xn⟩) 42)).mono b1.size)
  have bX := Blk.new w2 42 (ndC ⟨xi, xk, xl, xd, xp, .slice ax nxx cx, xn⟩)
  replace bF := bF.next b2
  replace bS := bS.next b2
  replace bR := bR.next b2
  replace hB := hB.trans (b2.mono hB.size)
  clear b1 b2
  have hxn : nxx = xn.length := by
    obtain ⟨a2, c2, e2, _⟩ := HEG.out _ (HV.out.below hB).all
    simp only [Value.slice.injEq] at e2
    exact e2.2.1
  subst hxn
  obtain ⟨⟨p0, p1, p2, p3⟩, _⟩ := bF.four
  obtain ⟨⟨s0, s1, s2⟩, _⟩ := bS.three
  obtain ⟨⟨x0, x1, x2, x3, x4, x5⟩, _⟩ := bX.six
  dsimp only at s0 s1 s2 x0 x1 x2 x3 x4 x5
  by_cases hk : xk ≠ 2
  case pos =>
    have HN : Hid (∀ ev, rmdirF l base p ev = (l, 3)) := fun ev => by rw [HF.out ev, if_pos hk]
    clear HF hUn
    obtain ⟨⟨r0, r1, r2, r3⟩, e0, e1, e2, e3⟩ := bR.four
    obtain ⟨W', hW', hb4, hg4⟩ := bR.put4 (.int .i64 mi) (.int .i64 mb) (.int .i64 nx) (.slice a l.length ca)
    have hbl := below_grown hB hg4 (Nat.le_refl _) (by omega)
    go_wp2
    obtain ⟨⟨y0, y1, y2, y3⟩, _⟩ := hb4.four
    refine bodyPost_ret (v := .tuple #[.agg (fsC mi mb nx (.slice a l.length ca)), .int .i64 3]) (by simp [results, Tryz.f17, go_sem, y0, y1, y2, y3]) rfl ?_
    exact ⟨_, .slice none 0 0, by rw [HN.out], by rw [HN.out]; exact MadeFs.same _ _ _ _, hbl⟩
  replace HF : Hid _ := fun ev => by have := HF.out ev; rw [if_neg hk] at this; exact this
  have hk2 : xk = 2 := by omega
  clear hk
  subst hk2
  by_cases hk1 : xi = 1
  case pos =>
    have HN : Hid (∀ ev, rmdirF l base p ev = (l, 10)) := fun ev => by rw [HF.out ev, if_pos hk1]
    clear HF hUn
    subst hk1
    obtain ⟨⟨r0, r1, r2, r3⟩, e0, e1, e2, e3⟩ := bR.four
    obtain ⟨W', hW', hb4, hg4⟩ := bR.put4 (.int .i64 mi) (.int .i64 mb) (.int .i64 nx) (.slice a l.length ca)
    have hbl := below_grown hB hg4 (Nat.le_refl _) (by omega)
    go_wp2
    obtain ⟨⟨y0, y1, y2, y3⟩, _⟩ := hb4.four
    refine bodyPost_ret (v := .tuple #[.agg (fsC mi mb nx (.slice a l.length ca)), .int .i64 10]) (by simp [results, Tryz.f17, go_sem, y0, y1, y2, y3]) rfl ?_
    exact ⟨_, .slice none 0 0, by rw [HN.out], by rw [HN.out]; exact MadeFs.same _ _ _ _, hbl⟩
  replace HF : Hid _ := fun ev => by have := HF.out ev; rw [if_neg hk1] at this; exact this
  by_cases hnm : qb = []
  case pos =>
    have HN : Hid (∀ ev, rmdirF l base p ev = (l, 9)) := fun ev => by rw [HF.out ev, if_pos hnm]
    clear HF hUn
    subst hnm
    obtain ⟨⟨r0, r1, r2, r3⟩, e0, e1, e2, e3⟩ := bR.four
    obtain ⟨W', hW', hb4, hg4⟩ := bR.put4 (.int .i64 mi) (.int .i64 mb) (.int .i64 nx) (.slice a l.length ca)
    have hbl := below_grown hB hg4 (Nat.le_refl _) (by omega)
    go_wp2
    obtain ⟨⟨y0, y1, y2, y3⟩, _⟩ := hb4.four
    refine bodyPost_ret (v := .tuple #[.agg (fsC mi mb nx (.slice a l.length ca)), .int .i64 9]) (by simp [results, Tryz.f17, go_sem, y0, y1, y2, y3]) rfl ?_
    exact ⟨_, .slice none 0 0, by rw [HN.out], by rw [HN.out]; exact MadeFs.same _ _ _ _, hbl⟩
  replace HF : Hid _ := fun ev => by have := HF.out ev; rw [if_neg hnm] at this; exact this
  have hnb : (qb == []) = false := by simpa using hnm
  by_cases hen : xn.length > 0
  case pos =>
    have HN : Hid (∀ ev, rmdirF l base p ev = (l, 5)) := fun ev => by rw [HF.out ev, if_pos hen]
    clear HF hUn
    obtain ⟨⟨r0, r1, r2, r3⟩, e0, e1, e2, e3⟩ := bR.four
    obtain ⟨W', hW', hb4, hg4⟩ := bR.put4 (.int .i64 mi) (.int .i64 mb) (.int .i64 nx) (.slice a l.length ca)
    have hbl := below_grown hB hg4 (Nat.le_refl _) (by omega)
    go_wp2
    obtain ⟨⟨y0, y1, y2, y3⟩, _⟩ := hb4.four
    refine bodyPost_ret (v := .tuple #[.agg (fsC mi mb nx (.slice a l.length ca)), .int .i64 5]) (by simp [results, Tryz.f17, go_sem, y0, y1, y2, y3]) rfl ?_
    exact ⟨_, .slice none 0 0, by rw [HN.out], by rw [HN.out]; exact MadeFs.same _ _ _ _, hbl⟩
  replace HF : Hid _ := fun ev => by have := HF.out ev; rw [if_neg hen] at this; exact this
  go_wp2_with fail
  refine (hUn _ (HV.out.below hB)).mono ?_
  rintro e w3 ⟨y, ev, rfl, hN, b3⟩
  obtain ⟨ay, cy, rfl⟩ := nds_slice (hN.now (HV.out.below hB) b3)
  have HN := Lib.hid (HF.out ev)
  generalize unL l qa qb qc ev = Z at *
  have hRl := bR.lt
  have hsz := hB.size
  clear hUn HF p0 p1 p2 p3 s0 s1 s2 x0 x1 x2 x3 x4 x5
  have bR3 := bR.next b3
  have hB3 := hB.trans (b3.mono hB.size)
  obtain ⟨⟨r0, r1, r2, r3⟩, e0, e1, e2, e3⟩ := bR3.four
  obtain ⟨W', hW', hb4, hg4⟩ := bR3.put4 (.int .i64 mi) (.int .i64 mb) (.int .i64 nx) (.slice ay Z.length cy)
  have hbl := below_grown hB3 hg4 (Nat.le_refl _) (by omega)
  have hM := hN.up (w := w) (w' := W') hsz (Kept.grown hg4 hRl)
  go_wp2
  obtain ⟨⟨y0, y1, y2, y3⟩, _⟩ := hb4.four
  refine bodyPost_ret (v := .tuple #[.agg (fsC mi mb nx (.slice ay Z.length cy)), .int .i64 0]) (by simp [results, Tryz.f17, go_sem, y0, y1, y2, y3]) rfl ?_
  exact ⟨_, ev, by rw [HN.out], by rw [HN.out]; exact hM, hbl⟩
end Go.Proofs.YtdgedcfenpmaoaaGreat
