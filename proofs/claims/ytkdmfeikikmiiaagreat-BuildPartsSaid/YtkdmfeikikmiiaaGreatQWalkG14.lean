/- Walks: the document's Rename, in parts (printed by tools/rename14.py). -/
import Derived.Test.YtkdmfeikikmiiaaGreatQMWalkD11
import Derived.Test.YtkdmfeikikmiiaaGreatQMWalkB05
import Derived.Test.YtkdmfeikikmiiaaGreatQWalkD12
set_option linter.unusedVariables false
set_option linter.unusedSimpArgs false
namespace Go.Proofs.YtkdmfeikikmiiaaGreat
open Go.RowKit
set_option maxHeartbeats 16000000 in
set_option maxRecDepth 100000 in
theorem refRename_dir_over (mi mb nx : Int) (l : List Nd) (base src dst : List UInt8) (v : Value) (w : World) (hv : Nds w v l) (hf : Fit l) (hb : base.length ≤ 100000) (hp : src.length ≤ 100000) (hp2 : dst.length ≤ 100000) (hsn : (seekP l base dst false).1.name.length ≤ 100000) (hln : ∀ i, 0 ≤ (getN l i).links ∧ (getN l i).links ≤ 1000000)
    (hT : (∀ ev e1 e2, (renameF l base src dst ev e1 e2).2 = 0) → (seekP l base src false).1.ino ≠ (seekP l base dst false).1.ino → MvOk l (seekP l base src false).1 (seekP l base dst false).1)
    (he : (seekP l base src false).2 = 0) (hc : ¬ (seekP l base src false).1.ino = 0) (hq0 : ¬ (seekP l base src false).1.name = []) (he2 : (seekP l base dst false).2 = 0) (hp0 : ¬ (seekP l base dst false).1.name = []) (hqp : ¬ (seekP l base src false).1.ino = (seekP l base dst false).1.ino) (hk : (getN l (seekP l base src false).1.ino).kind = 2) (hpc : ¬ (seekP l base dst false).1.ino = 0) :
    Calls Tryz.prog 33 #[.agg (fsC mi mb nx v), .string ⟨base.toArray⟩, .string ⟨src.toArray⟩, .string ⟨dst.toArray⟩] w fun e w' => ∃ y ev e1 e2, e = .returned (.tuple #[.agg (fsC mi mb nx y), .int .i64 (renameF l base src dst ev e1 e2).2]) ∧ MadeFs w v l w' y (renameF l base src dst ev e1 e2).1 ∧ Below w.heap.size w w' := by
  obtain ⟨a, ca, rfl⟩ := nds_slice hv
  have bF := (Blk.new w 28 (fsC mi mb nx (.slice a l.length ca))).alloc (.cells (fsC 0 0 0 (.slice none 0 0)) 28)
  have bR := Blk.new (w.alloc (.cells (fsC mi mb nx (.slice a l.length ca)) 28)) 28 (fsC 0 0 0 (.slice none 0 0))
  have hB := ((Below.refl w.heap.size w).alloc (Nat.le_refl _) (.cells (fsC mi mb nx (.slice a l.length ca)) 28)).alloc (by simp) (.cells (fsC 0 0 0 (.slice none 0 0)) 28)
  simp only [World.size_alloc] at bR
  have HV := Lib.hid hv
  have hda : ∀ i, (getN l i).data.length ≤ 5000 := fun i => (calm_get hf.calm i).2.2.1
  have HL := Lib.hid (show ∀ i, (getN l i).ents.length ≤ 1000 from fun i => (calm_get hf.calm i).2.1)
  have hSk := refSeek_any mi mb nx l base src false _ _ (hv.below hB) hda hb hp
  have hSk2 := fun w' (h : Nds w' (.slice a l.length ca) l) => refSeek_any mi mb nx l base dst false _ w' h hda hb hp2
  have hF : ∀ ev e1 e2, renameF l base src dst ev e1 e2 = renameF l base src dst ev e1 e2 := fun _ _ _ => rfl
  conv at hF => enter [ev, e1, e2]; rhs; unfold renameF
  have hMv := fun w' (h : Nds w' (.slice a l.length ca) l) (hT : MvOk l (seekP l base src false).1 (seekP l base dst false).1) => refMove_any mi mb nx l (seekP l base src false).1 (seekP l base dst false).1 _ w' h hf.calm.rise hf.calm.len ((rightB_iff _).1 (calm_get hf.calm _).1).2 (calm_get hf.calm _).2.1 (by have := hln (seekP l base dst false).1.ino; omega) hT
  have hGQ := fun w' (h : Nds w' (.slice a l.length ca) l) => refGetT_any mi mb nx (seekP l base src false).1.ino l _ w' h
  have hGX := fun w' (h : Nds w' (.slice a l.length ca) l) => refGetT_any mi mb nx (seekP l base dst false).1.ino l _ w' h
  have hIn := fun w' (h : Nds w' (.slice a l.length ca) l) => refInside_any mi mb nx (seekP l base dst false).1.dir (seekP l base src false).1.ino l _ w' h hf.calm.len
  have hMy := fun w' => refMay_any (seekP l base dst false).1.name w' (by omega)
  have hRd := fun w' => refReadC_any dst w' (by omega)
  generalize seekP l base src false = Q at *
  generalize seekP l base dst false = P at *
  obtain ⟨⟨qa, qb, qc⟩, qe⟩ := Q
  obtain ⟨⟨pa, pb, pc⟩, pe⟩ := P
  dsimp only at hF hSk hSk2 hMv hGQ hGX hIn hMy hsn hT he hc hq0 he2 hp0 hqp hk hpc
  have HF := Lib.hid hF
  have HT := Lib.hid hT
  have HPC := Lib.hid hpc
  clear hF hv hda hln hT hpc
  obtain ⟨⟨p0, p1, p2, p3⟩, _⟩ := bF.four
  go_enter Tryz.func33, Tryz.ntmps33
  go_wp2_with fail
  refine (hSk).mono ?_
  rintro e v17w ⟨rfl, b1⟩
  clear p0 p1 p2 p3
  have k1 := b1.trans ((alloc_below v17w (.cells (spC ⟨qa, qb, qc⟩) 81)).mono b1.size)
  have bA := Blk.new v17w 81 (spC ⟨qa, qb, qc⟩)
  replace bF := bF.next k1
  replace bR := bR.next k1
  replace hB := hB.trans (k1.mono hB.size)
  clear b1 k1
  obtain ⟨⟨p0, p1, p2, p3⟩, _⟩ := bF.four
  obtain ⟨⟨s0, s1, s2⟩, _⟩ := bA.three
  dsimp only at s0 s1 s2
  clear hSk
  subst he
  replace HF : Hid _ := fun ev e1 e2 => by have := HF.out ev e1 e2; rw [if_neg (by simp)] at this; exact this
  replace HF : Hid _ := fun ev e1 e2 => by have := HF.out ev e1 e2; rw [if_neg hc] at this; exact this
  replace HF : Hid _ := fun ev e1 e2 => by have := HF.out ev e1 e2; rw [if_neg hq0] at this; exact this
  have hqb : (qb == []) = false := by simpa using hq0
  have HQ0 := Lib.hid hq0
  clear hq0
  go_wp2_with fail
  refine (hSk2 _ (HV.out.below hB)).mono ?_
  rintro e v18w ⟨rfl, b1⟩
  clear p0 p1 p2 p3 s0 s1 s2
  have k1 := b1.trans ((alloc_below v18w (.cells (spC ⟨pa, pb, pc⟩) 81)).mono b1.size)
  have bB := Blk.new v18w 81 (spC ⟨pa, pb, pc⟩)
  replace bF := bF.next k1
  replace bA := bA.next k1
  replace bR := bR.next k1
  replace hB := hB.trans (k1.mono hB.size)
  clear b1 k1
  obtain ⟨⟨p0, p1, p2, p3⟩, _⟩ := bF.four
  obtain ⟨⟨s0, s1, s2⟩, _⟩ := bA.three
  dsimp only at s0 s1 s2
  obtain ⟨⟨t0, t1, t2⟩, _⟩ := bB.three
  dsimp only at t0 t1 t2
  clear hSk2
  subst he2
  replace HF : Hid _ := fun ev e1 e2 => by have := HF.out ev e1 e2; rw [if_neg (by simp)] at this; exact this
  replace HF : Hid _ := fun ev e1 e2 => by have := HF.out ev e1 e2; rw [if_neg hp0] at this; exact this
  have hpb : (pb == []) = false := by simpa using hp0
  have HP0 := Lib.hid hp0
  clear hp0
  replace HF : Hid _ := fun ev e1 e2 => by have := HF.out ev e1 e2; rw [if_neg hqp] at this; exact this
  have hG := hGQ _ (HV.out.below hB)
  clear hGQ
  obtain ⟨ax, nxx, cx, hxs⟩ := get_slice HV.out qc
  generalize getN l qc = X at *
  generalize hasN l qc = hs1 at *
  obtain ⟨xi, xk, xl, xd, xp, xe, xn⟩ := X
  dsimp only at hxs HF hk
  subst hxs
  go_wp2_with fail
  refine (hG).mono ?_
  rintro e v19w ⟨rfl, b1⟩
  clear p0 p1 p2 p3 s0 s1 s2 t0 t1 t2
  have k1 := b1.trans ((alloc_below v19w (.cells (ndC ⟨xi, xk, xl, xd, xp, .slice ax nxx cx, xn⟩) 49)).mono b1.size)
  have bX := Blk.new v19w 49 (ndC ⟨xi, xk, xl, xd, xp, .slice ax nxx cx, xn⟩)
  replace bF := bF.next k1
  replace bA := bA.next k1
  replace bB := bB.next k1
  replace bR := bR.next k1
  replace hB := hB.trans (k1.mono hB.size)
  clear b1 k1
  obtain ⟨⟨p0, p1, p2, p3⟩, _⟩ := bF.four
  obtain ⟨⟨s0, s1, s2⟩, _⟩ := bA.three
  dsimp only at s0 s1 s2
  obtain ⟨⟨t0, t1, t2⟩, _⟩ := bB.three
  dsimp only at t0 t1 t2
  obtain ⟨⟨x0, x1, x2, x3, x4, x5⟩, _⟩ := bX.six
  dsimp only at x0 x1 x2 x3 x4 x5
  clear hG
  subst hk
  cases hin : insideN l pa qc
  · replace HF : Hid _ := fun ev e1 e2 => by have := HF.out ev e1 e2; rw [if_neg (by rw [hin]; simp)] at this; exact this
    rw [hin] at hIn
    go_wp2_with fail
    refine (hIn _ (HV.out.below hB)).mono ?_
    rintro e v20w ⟨rfl, b1⟩
    clear p0 p1 p2 p3 s0 s1 s2 t0 t1 t2 x0 x1 x2 x3 x4 x5
    have k1 := b1
    replace bF := bF.next k1
    replace bA := bA.next k1
    replace bB := bB.next k1
    replace bX := bX.next k1
    replace bR := bR.next k1
    replace hB := hB.trans (k1.mono hB.size)
    clear b1 k1
    obtain ⟨⟨p0, p1, p2, p3⟩, _⟩ := bF.four
    obtain ⟨⟨s0, s1, s2⟩, _⟩ := bA.three
    dsimp only at s0 s1 s2
    obtain ⟨⟨t0, t1, t2⟩, _⟩ := bB.three
    dsimp only at t0 t1 t2
    obtain ⟨⟨x0, x1, x2, x3, x4, x5⟩, _⟩ := bX.six
    dsimp only at x0 x1 x2 x3 x4 x5
    clear hIn
    have hpc := HPC.out
    replace HF : Hid _ := fun ev e1 e2 => by have := HF.out ev e1 e2; rw [if_neg hpc] at this; exact this
    have hG := hGX _ (HV.out.below hB)
    obtain ⟨ay2, nyy, cy2, hys⟩ := get_slice HV.out pc
    have hyl := get_ents HV.out.all pc
    have hyc := HL.out pc
    clear hGX
    generalize getN l pc = Y at *
    generalize hasN l pc = hs2 at *
    obtain ⟨yi, yk, yl, yd, yp, ye, yn⟩ := Y
    dsimp only at hys hyl hyc HF
    subst hys
    have hyn : nyy = yn.length := by
      obtain ⟨a2, c2, e2, _⟩ := hyl
      simp only [Value.slice.injEq] at e2
      exact e2.2.1
    subst hyn
    clear hyl
    go_wp2_with fail
    refine (hG).mono ?_
    rintro e v28w ⟨rfl, b1⟩
    clear p0 p1 p2 p3 s0 s1 s2 t0 t1 t2 x0 x1 x2 x3 x4 x5
    have k1 := b1.trans ((alloc_below v28w (.cells (ndC ⟨yi, yk, yl, yd, yp, .slice ay2 yn.length cy2, yn⟩) 49)).mono b1.size)
    have bY := Blk.new v28w 49 (ndC ⟨yi, yk, yl, yd, yp, .slice ay2 yn.length cy2, yn⟩)
    replace bF := bF.next k1
    replace bA := bA.next k1
    replace bB := bB.next k1
    replace bX := bX.next k1
    replace bR := bR.next k1
    replace hB := hB.trans (k1.mono hB.size)
    clear b1 k1
    obtain ⟨⟨p0, p1, p2, p3⟩, _⟩ := bF.four
    obtain ⟨⟨s0, s1, s2⟩, _⟩ := bA.three
    dsimp only at s0 s1 s2
    obtain ⟨⟨t0, t1, t2⟩, _⟩ := bB.three
    dsimp only at t0 t1 t2
    obtain ⟨⟨x0, x1, x2, x3, x4, x5⟩, _⟩ := bX.six
    dsimp only at x0 x1 x2 x3 x4 x5
    obtain ⟨⟨y0, y1, y2, y3, y4, y5⟩, _⟩ := bY.six
    dsimp only at y0 y1 y2 y3 y4 y5
    clear hG hMy hRd
    by_cases hyk : yk = 2
    · replace HF : Hid _ := fun ev e1 e2 => by have := HF.out ev e1 e2; rw [if_neg (fun h => h.2 hyk)] at this; exact this
      replace HF : Hid _ := fun ev e1 e2 => by have := HF.out ev e1 e2; rw [if_neg (fun h => h.2 rfl)] at this; exact this
      subst hyk
      by_cases hen : yn.length > 0
      · have HN : Hid (∀ ev e1 e2, renameF l base src dst ev e1 e2 = (l, 5)) := fun ev e1 e2 => by have := HF.out ev e1 e2; rw [if_pos hen] at this; exact this
        clear HF HT hMv
        obtain ⟨⟨r0, r1, r2, r3⟩, e0, e1, e2, e3⟩ := bR.four
        obtain ⟨W', hW', hb4, hg4⟩ := bR.put4 (.int .i64 mi) (.int .i64 mb) (.int .i64 nx) (.slice a l.length ca)
        have hbl := below_grown hB hg4 (Nat.le_refl _) (by omega)
        go_wp2
        obtain ⟨⟨z0, z1, z2, z3⟩, _⟩ := hb4.four
        refine bodyPost_ret (v := .tuple #[.agg (fsC mi mb nx (.slice a l.length ca)), .int .i64 5]) (by simp [results, Tryz.f33, go_sem, z0, z1, z2, z3]) rfl ?_
        exact ⟨_, .slice none 0 0, .slice none 0 0, .slice none 0 0, by rw [HN.out], by rw [HN.out]; exact MadeFs.same _ _ _ _, hbl⟩
      · replace HF : Hid _ := fun ev e1 e2 => by have := HF.out ev e1 e2; rw [if_neg hen] at this; exact this
        have hTT := HT.out
        replace hTT := hTT (fun ev e1 e2 => by rw [HF.out ev e1 e2]) hqp
        go_wp2_with fail
        refine (hMv _ (HV.out.below hB) hTT).mono ?_
        rintro e v29w ⟨y, ev, e1, e2, rfl, hN, b3⟩
        clear hTT
        obtain ⟨ay, cy, rfl⟩ := nds_slice (hN.now (HV.out.below hB) b3)
        have HN := Lib.hid (HF.out ev e1 e2)
        (try dsimp only at hN)
        generalize mvL (tL l _ ev) qa qb qc pa pb e1 e2 = Z at *
        have hRl := bR.lt
        have hsz := hB.size
        clear hMv HF HT  p0 p1 p2 p3 s0 s1 s2 t0 t1 t2 x0 x1 x2 x3 x4 x5 y0 y1 y2 y3 y4 y5
        have bR3 := bR.next b3
        have hB3 := hB.trans (b3.mono hB.size)
        obtain ⟨⟨r0, r1, r2, r3⟩, g0, g1, g2, g3⟩ := bR3.four
        obtain ⟨W', hW', hb4, hg4⟩ := bR3.put4 (.int .i64 mi) (.int .i64 mb) (.int .i64 nx) (.slice ay Z.length cy)
        have hbl := below_grown hB3 hg4 (Nat.le_refl _) (by omega)
        have hM := hN.up (w := w) (w' := W') hsz (Kept.grown hg4 hRl)
        go_wp2
        obtain ⟨⟨z0, z1, z2, z3⟩, _⟩ := hb4.four
        refine bodyPost_ret (v := .tuple #[.agg (fsC mi mb nx (.slice ay Z.length cy)), .int .i64 0]) (by simp [results, Tryz.f33, go_sem, z0, z1, z2, z3]) rfl ?_
        exact ⟨_, ev, e1, e2, by rw [HN.out], by rw [HN.out]; exact hM, hbl⟩
    · have HN : Hid (∀ ev e1 e2, renameF l base src dst ev e1 e2 = (l, 3)) := fun ev e1 e2 => by have := HF.out ev e1 e2; rw [if_pos ⟨by first | rfl | trivial, hyk⟩] at this; exact this
      clear HF HT hMv
      obtain ⟨⟨r0, r1, r2, r3⟩, e0, e1, e2, e3⟩ := bR.four
      obtain ⟨W', hW', hb4, hg4⟩ := bR.put4 (.int .i64 mi) (.int .i64 mb) (.int .i64 nx) (.slice a l.length ca)
      have hbl := below_grown hB hg4 (Nat.le_refl _) (by omega)
      go_wp2
      obtain ⟨⟨z0, z1, z2, z3⟩, _⟩ := hb4.four
      refine bodyPost_ret (v := .tuple #[.agg (fsC mi mb nx (.slice a l.length ca)), .int .i64 3]) (by simp [results, Tryz.f33, go_sem, z0, z1, z2, z3]) rfl ?_
      exact ⟨_, .slice none 0 0, .slice none 0 0, .slice none 0 0, by rw [HN.out], by rw [HN.out]; exact MadeFs.same _ _ _ _, hbl⟩
  · have HN : Hid (∀ ev e1 e2, renameF l base src dst ev e1 e2 = (l, 9)) := fun ev e1 e2 => by have := HF.out ev e1 e2; rw [if_pos ⟨rfl, hin⟩] at this; exact this
    rw [hin] at hIn
    go_wp2_with fail
    refine (hIn _ (HV.out.below hB)).mono ?_
    rintro e v30w ⟨rfl, b1⟩
    clear p0 p1 p2 p3 s0 s1 s2 t0 t1 t2 x0 x1 x2 x3 x4 x5
    have k1 := b1
    replace bF := bF.next k1
    replace bA := bA.next k1
    replace bB := bB.next k1
    replace bX := bX.next k1
    replace bR := bR.next k1
    replace hB := hB.trans (k1.mono hB.size)
    clear b1 k1
    obtain ⟨⟨p0, p1, p2, p3⟩, _⟩ := bF.four
    obtain ⟨⟨s0, s1, s2⟩, _⟩ := bA.three
    dsimp only at s0 s1 s2
    obtain ⟨⟨t0, t1, t2⟩, _⟩ := bB.three
    dsimp only at t0 t1 t2
    obtain ⟨⟨x0, x1, x2, x3, x4, x5⟩, _⟩ := bX.six
    dsimp only at x0 x1 x2 x3 x4 x5
    clear HF HT hMv hMy hRd hGX hIn
    obtain ⟨⟨r0, r1, r2, r3⟩, e0, e1, e2, e3⟩ := bR.four
    obtain ⟨W', hW', hb4, hg4⟩ := bR.put4 (.int .i64 mi) (.int .i64 mb) (.int .i64 nx) (.slice a l.length ca)
    have hbl := below_grown hB hg4 (Nat.le_refl _) (by omega)
    go_wp2
    obtain ⟨⟨z0, z1, z2, z3⟩, _⟩ := hb4.four
    refine bodyPost_ret (v := .tuple #[.agg (fsC mi mb nx (.slice a l.length ca)), .int .i64 9]) (by simp [results, Tryz.f33, go_sem, z0, z1, z2, z3]) rfl ?_
    exact ⟨_, .slice none 0 0, .slice none 0 0, .slice none 0 0, by rw [HN.out], by rw [HN.out]; exact MadeFs.same _ _ _ _, hbl⟩
end Go.Proofs.YtkdmfeikikmiiaaGreat
