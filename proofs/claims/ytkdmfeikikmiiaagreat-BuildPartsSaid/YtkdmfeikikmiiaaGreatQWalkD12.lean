/- Walks: the document's Link. -/
import Derived.Test.YtkdmfeikikmiiaaGreatQMWalkD11
import Derived.Test.YtkdmfeikikmiiaaGreatQWalkB12
set_option linter.unusedVariables false
set_option linter.unusedSimpArgs false
namespace Go.Proofs.YtkdmfeikikmiiaaGreat
open Go.RowKit
set_option maxHeartbeats 8000000 in
set_option maxRecDepth 100000 in
theorem refLink_any (mi mb nx : Int) (l : List Nd) (base src dst : List UInt8) (v : Value) (w : World) (hv : Nds w v l) (hf : Fit l) (hb : base.length ≤ 100000) (hp : src.length ≤ 100000) (hp2 : dst.length ≤ 100000) (hsn : (seekP l base dst false).1.name.length ≤ 100000) (hln : ∀ i, 0 ≤ (getN l i).links ∧ (getN l i).links ≤ 1000000) :
    Calls Tryz.prog 30 #[.agg (fsC mi mb nx v), .string ⟨base.toArray⟩, .string ⟨src.toArray⟩, .string ⟨dst.toArray⟩] w fun e w' => ∃ y ev, e = .returned (.tuple #[.agg (fsC mi mb nx y), .int .i64 (linkF l base src dst ev).2]) ∧ MadeFs w v l w' y (linkF l base src dst ev).1 ∧ Below w.heap.size w w' := by
  obtain ⟨a, ca, rfl⟩ := nds_slice hv
  have bF := (Blk.new w 28 (fsC mi mb nx (.slice a l.length ca))).alloc (.cells (fsC 0 0 0 (.slice none 0 0)) 28)
  have bR := Blk.new (w.alloc (.cells (fsC mi mb nx (.slice a l.length ca)) 28)) 28 (fsC 0 0 0 (.slice none 0 0))
  have hB := ((Below.refl w.heap.size w).alloc (Nat.le_refl _) (.cells (fsC mi mb nx (.slice a l.length ca)) 28)).alloc (by simp) (.cells (fsC 0 0 0 (.slice none 0 0)) 28)
  simp only [World.size_alloc] at bR
  have HV := Lib.hid hv
  have hda : ∀ i, (getN l i).data.length ≤ 5000 := fun i => (calm_get hf.calm i).2.2.1
  have hSk := refSeek_any mi mb nx l base src false _ _ (hv.below hB) hda hb hp
  have hSk2 := fun w' (h : Nds w' (.slice a l.length ca) l) => refSeek_any mi mb nx l base dst false _ w' h hda hb hp2
  have hF : ∀ ev, linkF l base src dst ev = linkF l base src dst ev := fun _ => rfl
  conv at hF => enter [ev]; rhs; unfold linkF
  have hUn := fun i w' (h : Nds w' (.slice a l.length ca) l) => refName_any mi mb nx l (seekP l base dst false).1 i _ w' h hf.calm.rise ((rightB_iff _).1 (calm_get hf.calm _).1).2 (calm_get hf.calm _).2.1 hf.calm.len (by have := hln i; omega)
  have hGX := fun w' (h : Nds w' (.slice a l.length ca) l) => refGetT_any mi mb nx (seekP l base src false).1.ino l _ w' h
  have hxs := get_slice hv (seekP l base src false).1.ino
  have hMy := fun w' => refMay_any (seekP l base dst false).1.name w' (by omega)
  have hRd := fun w' => refReadC_any dst w' (by omega)
  generalize seekP l base src false = Q at *
  generalize seekP l base dst false = P at *
  obtain ⟨⟨qa, qb, qc⟩, qe⟩ := Q
  obtain ⟨⟨pa, pb, pc⟩, pe⟩ := P
  dsimp only at hF hSk hSk2 hUn hGX hxs hMy hsn
  have HF := Lib.hid hF
  clear hF hv hda hln
  obtain ⟨⟨p0, p1, p2, p3⟩, _⟩ := bF.four
  go_enter Tryz.func30, Tryz.ntmps30
  go_wp2_with fail
  refine hSk.mono ?_
  rintro e w1 ⟨rfl, b1⟩
  clear hSk p0 p1 p2 p3
  have b2 := b1.trans ((alloc_below w1 (.cells (spC ⟨qa, qb, qc⟩) 81)).mono b1.size)
  have bS := Blk.new w1 81 (spC ⟨qa, qb, qc⟩)
  replace bF := bF.next b2
  replace bR := bR.next b2
  replace hB := hB.trans (b2.mono hB.size)
  clear b1 b2
  obtain ⟨⟨p0, p1, p2, p3⟩, _⟩ := bF.four
  obtain ⟨⟨s0, s1, s2⟩, _⟩ := bS.three
  dsimp only at s0 s1 s2
  by_cases he : qe = 0
  case neg =>
    have HN : Hid (∀ ev, linkF l base src dst ev = (l, qe)) := fun ev => by rw [HF.out ev, if_pos he]
    clear HF hUn hGX hxs hSk2 hMy hRd
    obtain ⟨⟨r0, r1, r2, r3⟩, e0, e1, e2, e3⟩ := bR.four
    obtain ⟨W', hW', hb4, hg4⟩ := bR.put4 (.int .i64 mi) (.int .i64 mb) (.int .i64 nx) (.slice a l.length ca)
    have hbl := below_grown hB hg4 (Nat.le_refl _) (by omega)
    go_wp2
    obtain ⟨⟨y0, y1, y2, y3⟩, _⟩ := hb4.four
    refine bodyPost_ret (v := .tuple #[.agg (fsC mi mb nx (.slice a l.length ca)), .int .i64 qe]) (by simp [results, Tryz.f30, go_sem, y0, y1, y2, y3]) rfl ?_
    exact ⟨_, .slice none 0 0, by rw [HN.out], by rw [HN.out]; exact MadeFs.same _ _ _ _, hbl⟩
  subst he
  by_cases hc : qc = 0
  case pos =>
    have HN : Hid (∀ ev, linkF l base src dst ev = (l, 1)) := fun ev => by rw [HF.out ev, if_neg (by simp), if_pos hc]
    clear HF hUn hGX hxs hSk2 hMy hRd
    subst hc
    obtain ⟨⟨r0, r1, r2, r3⟩, e0, e1, e2, e3⟩ := bR.four
    obtain ⟨W', hW', hb4, hg4⟩ := bR.put4 (.int .i64 mi) (.int .i64 mb) (.int .i64 nx) (.slice a l.length ca)
    have hbl := below_grown hB hg4 (Nat.le_refl _) (by omega)
    go_wp2
    obtain ⟨⟨y0, y1, y2, y3⟩, _⟩ := hb4.four
    refine bodyPost_ret (v := .tuple #[.agg (fsC mi mb nx (.slice a l.length ca)), .int .i64 1]) (by simp [results, Tryz.f30, go_sem, y0, y1, y2, y3]) rfl ?_
    exact ⟨_, .slice none 0 0, by rw [HN.out], by rw [HN.out]; exact MadeFs.same _ _ _ _, hbl⟩
  replace HF : Hid _ := fun ev => by have := HF.out ev; rw [if_neg (by simp), if_neg hc] at this; exact this
  have hG := hGX _ (HV.out.below hB)
  clear hGX
  generalize getN l qc = X at *
  generalize hasN l qc = hs1 at *
  obtain ⟨xi, xk, xl, xd, xp, xe, xn⟩ := X
  dsimp only at hxs HF
  obtain ⟨ax, nxx, cx, rfl⟩ := hxs
  go_wp2_with fail
  refine hG.mono ?_
  rintro e w2 ⟨rfl, b1⟩
  clear hG p0 p1 p2 p3 s0 s1 s2
  have b2 := b1.trans ((alloc_below w2 (.cells (ndC ⟨xi, xk, xl, xd, xp, .slice ax nxx cx, xn⟩) 49)).mono b1.size)
  have bX := Blk.new w2 49 (ndC ⟨xi, xk, xl, xd, xp, .slice ax nxx cx, xn⟩)
  replace bF := bF.next b2
  replace bR := bR.next b2
  replace hB := hB.trans (b2.mono hB.size)
  clear b1 b2 bS
  obtain ⟨⟨p0, p1, p2, p3⟩, _⟩ := bF.four
  obtain ⟨⟨x0, x1, x2, x3, x4, x5⟩, _⟩ := bX.six
  dsimp only at x0 x1 x2 x3 x4 x5
  by_cases hk : xk = 2
  case pos =>
    have HN : Hid (∀ ev, linkF l base src dst ev = (l, 11)) := fun ev => by rw [HF.out ev, if_pos hk]
    clear HF hUn hSk2 hMy hRd
    subst hk
    obtain ⟨⟨r0, r1, r2, r3⟩, e0, e1, e2, e3⟩ := bR.four
    obtain ⟨W', hW', hb4, hg4⟩ := bR.put4 (.int .i64 mi) (.int .i64 mb) (.int .i64 nx) (.slice a l.length ca)
    have hbl := below_grown hB hg4 (Nat.le_refl _) (by omega)
    go_wp2
    obtain ⟨⟨y0, y1, y2, y3⟩, _⟩ := hb4.four
    refine bodyPost_ret (v := .tuple #[.agg (fsC mi mb nx (.slice a l.length ca)), .int .i64 11]) (by simp [results, Tryz.f30, go_sem, y0, y1, y2, y3]) rfl ?_
    exact ⟨_, .slice none 0 0, by rw [HN.out], by rw [HN.out]; exact MadeFs.same _ _ _ _, hbl⟩
  replace HF : Hid _ := fun ev => by have := HF.out ev; rw [if_neg hk] at this; exact this
  go_wp2_with fail
  refine (hSk2 _ (HV.out.below hB)).mono ?_
  rintro e w3 ⟨rfl, b1⟩
  clear hSk2 p0 p1 p2 p3 x0 x1 x2 x3 x4 x5
  have b2 := b1.trans ((alloc_below w3 (.cells (spC ⟨pa, pb, pc⟩) 81)).mono b1.size)
  have bS := Blk.new w3 81 (spC ⟨pa, pb, pc⟩)
  replace bF := bF.next b2
  replace bR := bR.next b2
  replace bX := bX.next b2
  replace hB := hB.trans (b2.mono hB.size)
  clear b1 b2
  obtain ⟨⟨p0, p1, p2, p3⟩, _⟩ := bF.four
  obtain ⟨⟨s0, s1, s2⟩, _⟩ := bS.three
  dsimp only at s0 s1 s2
  by_cases he : pe = 0
  case neg =>
    have HN : Hid (∀ ev, linkF l base src dst ev = (l, pe)) := fun ev => by rw [HF.out ev, if_pos he]
    clear HF hUn hMy hRd
    obtain ⟨⟨r0, r1, r2, r3⟩, e0, e1, e2, e3⟩ := bR.four
    obtain ⟨W', hW', hb4, hg4⟩ := bR.put4 (.int .i64 mi) (.int .i64 mb) (.int .i64 nx) (.slice a l.length ca)
    have hbl := below_grown hB hg4 (Nat.le_refl _) (by omega)
    go_wp2
    obtain ⟨⟨y0, y1, y2, y3⟩, _⟩ := hb4.four
    refine bodyPost_ret (v := .tuple #[.agg (fsC mi mb nx (.slice a l.length ca)), .int .i64 pe]) (by simp [results, Tryz.f30, go_sem, y0, y1, y2, y3]) rfl ?_
    exact ⟨_, .slice none 0 0, by rw [HN.out], by rw [HN.out]; exact MadeFs.same _ _ _ _, hbl⟩
  subst he
  by_cases hc2 : pc = 0
  case neg =>
    have HN : Hid (∀ ev, linkF l base src dst ev = (l, 2)) := fun ev => by rw [HF.out ev, if_neg (by simp), if_pos hc2]
    clear HF hUn hMy hRd
    obtain ⟨⟨r0, r1, r2, r3⟩, e0, e1, e2, e3⟩ := bR.four
    obtain ⟨W', hW', hb4, hg4⟩ := bR.put4 (.int .i64 mi) (.int .i64 mb) (.int .i64 nx) (.slice a l.length ca)
    have hbl := below_grown hB hg4 (Nat.le_refl _) (by omega)
    go_wp2
    obtain ⟨⟨y0, y1, y2, y3⟩, _⟩ := hb4.four
    refine bodyPost_ret (v := .tuple #[.agg (fsC mi mb nx (.slice a l.length ca)), .int .i64 2]) (by simp [results, Tryz.f30, go_sem, y0, y1, y2, y3]) rfl ?_
    exact ⟨_, .slice none 0 0, by rw [HN.out], by rw [HN.out]; exact MadeFs.same _ _ _ _, hbl⟩
  subst hc2
  replace HF : Hid _ := fun ev => by have := HF.out ev; rw [if_neg (by simp), if_neg (by simp)] at this; exact this
  cases hsl : slashB dst
  case true =>
    have HN : Hid (∀ ev, linkF l base src dst ev = (l, 1)) := fun ev => by rw [HF.out ev, if_pos hsl]
    rw [hsl] at hRd
    clear HF hUn hMy
    go_wp2_with fail
    refine (hRd _).mono ?_
    rintro e w4 ⟨vp, rfl, hst, b2⟩
    obtain ⟨ap, np, cp, rfl, _⟩ := id hst.2
    have hfi := field2 (absB dst) true (.slice ap np cp)
    replace bF := bF.next b2
    replace bR := bR.next b2
    replace hB := hB.trans (b2.mono hB.size)
    clear hst b2 hRd p0 p1 p2 p3 s0 s1 s2
    obtain ⟨⟨p0, p1, p2, p3⟩, _⟩ := bF.four
    obtain ⟨⟨r0, r1, r2, r3⟩, e0, e1, e2, e3⟩ := bR.four
    obtain ⟨W', hW', hb4, hg4⟩ := bR.put4 (.int .i64 mi) (.int .i64 mb) (.int .i64 nx) (.slice a l.length ca)
    have hbl := below_grown hB hg4 (Nat.le_refl _) (by omega)
    go_wp2
    obtain ⟨⟨y0, y1, y2, y3⟩, _⟩ := hb4.four
    refine bodyPost_ret (v := .tuple #[.agg (fsC mi mb nx (.slice a l.length ca)), .int .i64 1]) (by simp [results, Tryz.f30, go_sem, y0, y1, y2, y3]) rfl ?_
    exact ⟨_, .slice none 0 0, by rw [HN.out], by rw [HN.out]; exact MadeFs.same _ _ _ _, hbl⟩
  replace HF : Hid _ := fun ev => by have := HF.out ev; rw [if_neg (by rw [hsl]; simp)] at this; exact this
  rw [hsl] at hRd
  go_wp2_with fail
  refine (hRd _).mono ?_
  rintro e w4 ⟨vp, rfl, hst, b2⟩
  obtain ⟨ap, np, cp, rfl, _⟩ := id hst.2
  have hfi := field2 (absB dst) false (.slice ap np cp)
  replace bF := bF.next b2
  replace bR := bR.next b2
  replace bX := bX.next b2
  replace bS := bS.next b2
  replace hB := hB.trans (b2.mono hB.size)
  clear hst b2 hRd p0 p1 p2 p3 s0 s1 s2
  obtain ⟨⟨p0, p1, p2, p3⟩, _⟩ := bF.four
  obtain ⟨⟨s0, s1, s2⟩, _⟩ := bS.three
  obtain ⟨⟨x0, x1, x2, x3, x4, x5⟩, _⟩ := bX.six
  dsimp only at s0 s1 s2 x0 x1 x2 x3 x4 x5
  cases hm : mayB pb
  case false =>
    have HN : Hid (∀ ev, linkF l base src dst ev = (l, 9)) := fun ev => by rw [HF.out ev, if_pos hm]
    rw [hm] at hMy
    clear HF hUn
    go_wp2_with fail
    refine (hMy _).mono ?_
    rintro e wz ⟨rfl, hwz⟩
    subst hwz
    clear hMy
    obtain ⟨⟨r0, r1, r2, r3⟩, e0, e1, e2, e3⟩ := bR.four
    obtain ⟨W', hW', hb4, hg4⟩ := bR.put4 (.int .i64 mi) (.int .i64 mb) (.int .i64 nx) (.slice a l.length ca)
    have hbl := below_grown hB hg4 (Nat.le_refl _) (by omega)
    go_wp2
    obtain ⟨⟨y0, y1, y2, y3⟩, _⟩ := hb4.four
    refine bodyPost_ret (v := .tuple #[.agg (fsC mi mb nx (.slice a l.length ca)), .int .i64 9]) (by simp [results, Tryz.f30, go_sem, y0, y1, y2, y3]) rfl ?_
    exact ⟨_, .slice none 0 0, by rw [HN.out], by rw [HN.out]; exact MadeFs.same _ _ _ _, hbl⟩
  replace HF : Hid _ := fun ev => by have := HF.out ev; rw [if_neg (by rw [hm]; simp)] at this; exact this
  rw [hm] at hMy
  go_wp2_with fail
  refine (hMy _).mono ?_
  rintro e wz ⟨rfl, hwz⟩
  subst hwz
  clear hMy
  go_wp2_with fail
  refine (hUn xi _ (HV.out.below hB)).mono ?_
  rintro e w5 ⟨y, ev, rfl, hN, b3⟩
  obtain ⟨ay, cy, rfl⟩ := nds_slice (hN.now (HV.out.below hB) b3)
  have HN := Lib.hid (HF.out ev)
  generalize naL l pa pb xi ev = Z at *
  have hRl := bR.lt
  have hsz := hB.size
  clear hUn HF p0 p1 p2 p3 s0 s1 s2 x0 x1 x2 x3 x4 x5
  have bR3 := bR.next b3
  have hB3 := hB.trans (b3.mono hB.size)
  obtain ⟨⟨r0, r1, r2, r3⟩, e0, e1, e2, e3⟩ := bR3.four
  obtain ⟨W', hW', hb4, hg4⟩ := bR3.put4 (.int .i64 mi) (.int .i64 mb) (.int .i64 nx) (.slice ay Z.length cy)
  have hbl := below_grown hB3 hg4 (Nat.le_refl _) (by omega)
  have hM := hN.up (w := w) (w' := W') hsz (Kept.grown hg4 hRl)
  go_wp2
  obtain ⟨⟨y0, y1, y2, y3⟩, _⟩ := hb4.four
  refine bodyPost_ret (v := .tuple #[.agg (fsC mi mb nx (.slice ay Z.length cy)), .int .i64 0]) (by simp [results, Tryz.f30, go_sem, y0, y1, y2, y3]) rfl ?_
  exact ⟨_, ev, by rw [HN.out], by rw [HN.out]; exact hM, hbl⟩
end Go.Proofs.YtkdmfeikikmiiaaGreat
