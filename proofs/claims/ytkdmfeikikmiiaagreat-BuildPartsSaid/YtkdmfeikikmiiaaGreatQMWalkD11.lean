/- Texts put together: WalkB11, WalkA13, WalkB13, WalkA14, WalkB14, WalkC12, WalkC11, WalkD11. -/
import Derived.Test.YtkdmfeikikmiiaaGreatQWalkA11
import Derived.Test.YtkdmfeikikmiiaaGreatQMWalkB05
import Derived.Test.YtkdmfeikikmiiaaGreatQMWalkD07
set_option linter.unusedVariables false
set_option linter.unusedSimpArgs false
namespace Go.Proofs.YtkdmfeikikmiiaaGreat
open Go.RowKit
theorem putF_err {mi mb nx : Int} {l : List Nd} {base p : List UInt8} {k : Int} {data : List UInt8} {rf : Int} {ev : Value} (h : (seekP l base p false).2 ≠ 0) : putF mi mb nx l base p k data rf ev = ((nx, l), (seekP l base p false).2) := by unfold putF; rw [if_pos h]
theorem putF_there {mi mb nx : Int} {l : List Nd} {base p : List UInt8} {k : Int} {data : List UInt8} {rf : Int} {ev : Value} (h : (seekP l base p false).2 = 0) (h2 : (seekP l base p false).1.ino ≠ 0) : putF mi mb nx l base p k data rf ev = ((nx, l), 2) := by unfold putF; rw [if_neg (by simp [h]), if_pos h2]
theorem putF_slash {mi mb nx : Int} {l : List Nd} {base p : List UInt8} {k : Int} {data : List UInt8} {rf : Int} {ev : Value} (h : (seekP l base p false).2 = 0) (h2 : (seekP l base p false).1.ino = 0) (h3 : rf ≠ 0 ∧ slashB p = true) : putF mi mb nx l base p k data rf ev = ((nx, l), rf) := by
  unfold putF; rw [if_neg (by simp [h]), if_neg (by simp [h2]), if_pos h3]
theorem putF_new {mi mb nx : Int} {l : List Nd} {base p : List UInt8} {k : Int} {data : List UInt8} {rf : Int} {ev : Value} (h : (seekP l base p false).2 = 0) (h2 : (seekP l base p false).1.ino = 0) (h3 : ¬ (rf ≠ 0 ∧ slashB p = true)) : putF mi mb nx l base p k data rf ev = newF mi mb nx l (seekP l base p false).1 k data ev := by
  unfold putF; rw [if_neg (by simp [h]), if_neg (by simp [h2]), if_neg h3]
/-- What the calls ask of a table that is sound. -/
structure Fit (l : List Nd) : Prop where
  calm : Calm l
  few : l.length ≤ 40
  bytes : bytesN l ≤ 1000000
theorem fit_of {mi mb nx : Int} {l : List Nd} (h : okB mi mb nx l = true) : Fit l := by
  have hf := (ok_parts h).1
  have h1 := (few_ents hf).2.1
  refine ⟨calm_of h, h1, ?_⟩
  have := bytesN_few (l := l) (m := 5000) fun x hx => ((calm_of h).size x hx).2.1
  omega
theorem field2 (a s : Bool) (v : Value) (w : World) : (Instr.field 86 (.agg (pathR a v s)) 2).run Tryz.prog w = .ok (.bool s) w := by kernel_rfl
set_option maxHeartbeats 8000000 in
set_option maxRecDepth 100000 in
theorem refPut11_any (mi mb nx k rf : Int) (l : List Nd) (base p data : List UInt8) (v : Value) (w : World) (hv : Nds w v l) (hf : Fit l) (hb : base.length ≤ 100000) (hp : p.length ≤ 100000) (hdl : data.length ≤ 100000) (hsn : (seekP l base p false).1.name.length ≤ 100000) (hnx : -4611686018427387904 ≤ nx ∧ nx ≤ 4611686018427387904) :
    Calls Tryz.prog 52 #[.agg (fsC mi mb nx v), .string ⟨base.toArray⟩, .string ⟨p.toArray⟩, .int .i64 k, .string ⟨data.toArray⟩, .int .i64 rf] w fun e w' => ∃ y ev, e = .returned (.tuple #[.agg (fsC mi mb (putF mi mb nx l base p k data rf ev).1.1 y), .int .i64 (putF mi mb nx l base p k data rf ev).2]) ∧ MadeFs w v l w' y (putF mi mb nx l base p k data rf ev).1.2 ∧ Below w.heap.size w w' := by
  obtain ⟨a, ca, rfl⟩ := nds_slice hv
  have bF := (Blk.new w 28 (fsC mi mb nx (.slice a l.length ca))).alloc (.cells (fsC 0 0 0 (.slice none 0 0)) 28)
  have bR := Blk.new (w.alloc (.cells (fsC mi mb nx (.slice a l.length ca)) 28)) 28 (fsC 0 0 0 (.slice none 0 0))
  have hB := ((Below.refl w.heap.size w).alloc (Nat.le_refl _) (.cells (fsC mi mb nx (.slice a l.length ca)) 28)).alloc (by simp) (.cells (fsC 0 0 0 (.slice none 0 0)) 28)
  simp only [World.size_alloc] at bR
  have HV := Lib.hid hv
  have hda : ∀ i, (getN l i).data.length ≤ 5000 := fun i => (calm_get hf.calm i).2.2.1
  have hSk := refSeek_any mi mb nx l base p false _ _ (hv.below hB) hda hb hp
  have h1 := fun ev => putF_err (mi := mi) (mb := mb) (nx := nx) (l := l) (base := base) (p := p) (k := k) (data := data) (rf := rf) (ev := ev)
  have h2 := fun ev => putF_there (mi := mi) (mb := mb) (nx := nx) (l := l) (base := base) (p := p) (k := k) (data := data) (rf := rf) (ev := ev)
  have h3 := fun ev => putF_slash (mi := mi) (mb := mb) (nx := nx) (l := l) (base := base) (p := p) (k := k) (data := data) (rf := rf) (ev := ev)
  have h4 := fun ev => putF_new (mi := mi) (mb := mb) (nx := nx) (l := l) (base := base) (p := p) (k := k) (data := data) (rf := rf) (ev := ev)
  have hNw := fun w' (h : Nds w' (.slice a l.length ca) l) => refNew_any mi mb nx k l (seekP l base p false).1 data _ w' h hf.calm.rise ((rightB_iff _).1 (calm_get hf.calm _).1).2 (calm_get hf.calm _).2.1 (by have := hf.few; omega) hf.bytes hdl hsn hnx
  generalize seekP l base p false = Q at *
  obtain ⟨⟨qa, qb, qc⟩, qe⟩ := Q
  dsimp only at h1 h2 h3 h4 hSk hNw
  have H1 := Lib.hid h1
  have H2 := Lib.hid h2
  have H3 := Lib.hid h3
  have H4 := Lib.hid h4
  clear h1 h2 h3 h4 hv hsn hda
  obtain ⟨⟨p0, p1, p2, p3⟩, _⟩ := bF.four
  go_enter Tryz.func52, Tryz.ntmps52
  go_wp2_with fail
  refine hSk.mono ?_
  rintro e w1 ⟨rfl, b1⟩
  clear hSk p0 p1 p2 p3
  have s1 := alloc_below w1 (.cells (spC ⟨qa, qb, qc⟩) 81)
  have bS := Blk.new w1 81 (spC ⟨qa, qb, qc⟩)
  have b2 := b1.trans (s1.mono b1.size)
  replace bF := bF.next b2
  replace bR := bR.next b2
  replace hB := hB.trans (b2.mono hB.size)
  clear b1 s1 b2
  obtain ⟨⟨p0, p1, p2, p3⟩, _⟩ := bF.four
  obtain ⟨⟨s0, s1, s2⟩, _⟩ := bS.three
  dsimp only at s0 s1 s2
  by_cases he : qe = 0
  · subst he
    by_cases hc : qc = 0
    · subst hc
      by_cases hrf : rf = 0
      · subst hrf
        have HN := Lib.hid (fun ev => H4.out ev rfl rfl (fun h => h.1 rfl))
        clear H1 H2 H3 H4
        go_wp2_with fail
        refine (hNw _ (HV.out.below hB)).mono ?_
        rintro e w3 ⟨y, ev, rfl, hN, b3⟩
        obtain ⟨ay, cy, rfl⟩ := nds_slice (hN.now (HV.out.below hB) b3)
        have HNN := HN.out ev
        generalize newF mi mb nx l ⟨qa, qb, 0⟩ k data ev = Z at *
        obtain ⟨⟨z1, z2⟩, z3⟩ := Z
        dsimp only at hN
        have hRl := bR.lt
        have hsz := hB.size
        clear hNw p0 p1 p2 p3 s0 s1 s2 HN
        have HNN2 := Lib.hid HNN
        clear HNN
        have bR3 := bR.next b3
        have hB3 := hB.trans (b3.mono hB.size)
        obtain ⟨⟨r0, r1, r2, r3⟩, e0, e1, e2, e3⟩ := bR3.four
        obtain ⟨W', hW', hb4, hg4⟩ := bR3.put4 (.int .i64 mi) (.int .i64 mb) (.int .i64 z1) (.slice ay z2.length cy)
        have hbl := below_grown hB3 hg4 (Nat.le_refl _) (by omega)
        have hM := hN.up (w := w) (w' := W') hsz (Kept.grown hg4 hRl)
        go_wp2
        obtain ⟨⟨y0, y1, y2, y3⟩, _⟩ := hb4.four
        refine bodyPost_ret (v := .tuple #[.agg (fsC mi mb z1 (.slice ay z2.length cy)), .int .i64 z3]) (by simp [results, Tryz.f52, go_sem, y0, y1, y2, y3]) rfl ?_
        exact ⟨_, ev, by rw [HNN2.out], by rw [HNN2.out]; exact hM, hbl⟩
      · cases hsl : slashB p
        · have HN := Lib.hid (fun ev => H4.out ev rfl rfl (fun h => by rw [hsl] at h; cases h.2))
          have hRd := fun w' => refReadC_any p w' (by omega)
          rw [hsl] at hRd
          clear H1 H2 H3 H4
          go_wp2_with fail
          refine (hRd _).mono ?_
          rintro e w2 ⟨vp, rfl, hst, b2⟩
          obtain ⟨ap, np, cp, rfl, _⟩ := id hst.2
          have hfi := field2 (absB p) false (.slice ap np cp)
          replace bF := bF.next b2
          replace bR := bR.next b2
          replace bS := bS.next b2
          replace hB := hB.trans (b2.mono hB.size)
          clear hst b2 hRd p0 p1 p2 p3 s0 s1 s2
          obtain ⟨⟨p0, p1, p2, p3⟩, _⟩ := bF.four
          obtain ⟨⟨s0, s1, s2⟩, _⟩ := bS.three
          dsimp only at s0 s1 s2
          go_wp2_with fail
          refine (hNw _ (HV.out.below hB)).mono ?_
          rintro e w3 ⟨y, ev, rfl, hN, b3⟩
          obtain ⟨ay, cy, rfl⟩ := nds_slice (hN.now (HV.out.below hB) b3)
          have HNN := HN.out ev
          generalize newF mi mb nx l ⟨qa, qb, 0⟩ k data ev = Z at *
          obtain ⟨⟨z1, z2⟩, z3⟩ := Z
          dsimp only at hN
          have hRl := bR.lt
          have hsz := hB.size
          clear hNw p0 p1 p2 p3 s0 s1 s2 HN
          have HNN2 := Lib.hid HNN
          clear HNN
          have bR3 := bR.next b3
          have hB3 := hB.trans (b3.mono hB.size)
          obtain ⟨⟨r0, r1, r2, r3⟩, e0, e1, e2, e3⟩ := bR3.four
          obtain ⟨W', hW', hb4, hg4⟩ := bR3.put4 (.int .i64 mi) (.int .i64 mb) (.int .i64 z1) (.slice ay z2.length cy)
          have hbl := below_grown hB3 hg4 (Nat.le_refl _) (by omega)
          have hM := hN.up (w := w) (w' := W') hsz (Kept.grown hg4 hRl)
          go_wp2
          obtain ⟨⟨y0, y1, y2, y3⟩, _⟩ := hb4.four
          refine bodyPost_ret (v := .tuple #[.agg (fsC mi mb z1 (.slice ay z2.length cy)), .int .i64 z3]) (by simp [results, Tryz.f52, go_sem, y0, y1, y2, y3]) rfl ?_
          exact ⟨_, ev, by rw [HNN2.out], by rw [HNN2.out]; exact hM, hbl⟩
        · have HN := Lib.hid (fun ev => H3.out ev rfl rfl ⟨hrf, hsl⟩)
          have hRd := fun w' => refReadC_any p w' (by omega)
          rw [hsl] at hRd
          clear H1 H2 H3 H4 hNw
          go_wp2_with fail
          refine (hRd _).mono ?_
          rintro e w2 ⟨vp, rfl, hst, b2⟩
          obtain ⟨ap, np, cp, rfl, _⟩ := id hst.2
          have hfi := field2 (absB p) true (.slice ap np cp)
          replace bF := bF.next b2
          replace bR := bR.next b2
          replace bS := bS.next b2
          replace hB := hB.trans (b2.mono hB.size)
          clear hst b2 hRd p0 p1 p2 p3 s0 s1 s2
          obtain ⟨⟨p0, p1, p2, p3⟩, _⟩ := bF.four
          obtain ⟨⟨r0, r1, r2, r3⟩, e0, e1, e2, e3⟩ := bR.four
          obtain ⟨W', hW', hb4, hg4⟩ := bR.put4 (.int .i64 mi) (.int .i64 mb) (.int .i64 nx) (.slice a l.length ca)
          have hbl := below_grown hB hg4 (Nat.le_refl _) (by omega)
          go_wp2
          obtain ⟨⟨y0, y1, y2, y3⟩, _⟩ := hb4.four
          refine bodyPost_ret (v := .tuple #[.agg (fsC mi mb nx (.slice a l.length ca)), .int .i64 rf]) (by simp [results, Tryz.f52, go_sem, y0, y1, y2, y3]) rfl ?_
          exact ⟨_, .slice none 0 0, by rw [HN.out], by rw [HN.out]; exact MadeFs.same _ _ _ _, hbl⟩
    · have HN := Lib.hid (fun ev => H2.out ev rfl hc)
      clear H1 H2 H3 H4 hNw
      obtain ⟨⟨r0, r1, r2, r3⟩, e0, e1, e2, e3⟩ := bR.four
      obtain ⟨W', hW', hb4, hg4⟩ := bR.put4 (.int .i64 mi) (.int .i64 mb) (.int .i64 nx) (.slice a l.length ca)
      have hbl := below_grown hB hg4 (Nat.le_refl _) (by omega)
      go_wp2
      obtain ⟨⟨y0, y1, y2, y3⟩, _⟩ := hb4.four
      refine bodyPost_ret (v := .tuple #[.agg (fsC mi mb nx (.slice a l.length ca)), .int .i64 2]) (by simp [results, Tryz.f52, go_sem, y0, y1, y2, y3]) rfl ?_
      exact ⟨_, .slice none 0 0, by rw [HN.out], by rw [HN.out]; exact MadeFs.same _ _ _ _, hbl⟩
  · have HN := Lib.hid (fun ev => H1.out ev he)
    clear H1 H2 H3 H4 hNw
    obtain ⟨⟨r0, r1, r2, r3⟩, e0, e1, e2, e3⟩ := bR.four
    obtain ⟨W', hW', hb4, hg4⟩ := bR.put4 (.int .i64 mi) (.int .i64 mb) (.int .i64 nx) (.slice a l.length ca)
    have hbl := below_grown hB hg4 (Nat.le_refl _) (by omega)
    go_wp2
    obtain ⟨⟨y0, y1, y2, y3⟩, _⟩ := hb4.four
    refine bodyPost_ret (v := .tuple #[.agg (fsC mi mb nx (.slice a l.length ca)), .int .i64 qe]) (by simp [results, Tryz.f52, go_sem, y0, y1, y2, y3]) rfl ?_
    exact ⟨_, .slice none 0 0, by rw [HN.out], by rw [HN.out]; exact MadeFs.same _ _ _ _, hbl⟩
set_option maxHeartbeats 8000000 in
set_option maxRecDepth 100000 in
theorem refStat_any (mi mb nx : Int) (l : List Nd) (base p : List UInt8) (fo : Bool) (v : Value) (w : World) (hv : Nds w v l) (hda : ∀ i, (getN l i).data.length ≤ 5000) (hb : base.length ≤ 100000) (hp : p.length ≤ 100000) :
    Calls Tryz.prog 54 #[.agg (fsC mi mb nx v), .string ⟨base.toArray⟩, .string ⟨p.toArray⟩, .bool fo] w fun e w' => e = .returned (.tuple #[.agg (ndC (statF l base p fo).1), .int .i64 (statF l base p fo).2]) ∧ Below w.heap.size w w' := by
  obtain ⟨a, ca, rfl⟩ := nds_slice hv
  have bF := (Blk.new w 28 (fsC mi mb nx (.slice a l.length ca))).alloc (.cells #[.int .i64 0, .int .i64 0, .int .i64 0, .string ⟨#[]⟩, .int .i64 0, .slice none 0 0] 49)
  have bR : Blk _ _ 49 (ndC zeroN) := Blk.new (w.alloc (.cells (fsC mi mb nx (.slice a l.length ca)) 28)) 49 (ndC zeroN)
  have hB := ((Below.refl w.heap.size w).alloc (Nat.le_refl _) (.cells (fsC mi mb nx (.slice a l.length ca)) 28)).alloc (by simp) (.cells #[.int .i64 0, .int .i64 0, .int .i64 0, .string ⟨#[]⟩, .int .i64 0, .slice none 0 0] 49)
  simp only [World.size_alloc] at bR
  have HV := Lib.hid hv
  have hSk := refSeek_any mi mb nx l base p fo _ _ (hv.below hB) hda hb hp
  have hF : statF l base p fo = statF l base p fo := rfl
  conv at hF => rhs; unfold statF
  have hGX := fun w' (h : Nds w' (.slice a l.length ca) l) => refGetT_any mi mb nx (seekP l base p fo).1.ino l _ w' h
  have hxs := get_slice hv (seekP l base p fo).1.ino
  generalize seekP l base p fo = Q at *
  obtain ⟨⟨qa, qb, qc⟩, qe⟩ := Q
  dsimp only at hF hSk hGX hxs
  have HF := Lib.hid hF
  clear hF hv hda
  obtain ⟨⟨p0, p1, p2, p3⟩, _⟩ := bF.four
  go_enter Tryz.func54, Tryz.ntmps54
  go_wp2_with fail
  refine hSk.mono ?_
  rintro e w1 ⟨rfl, b1⟩
  clear hSk p0 p1 p2 p3
  have b2 := b1.trans ((alloc_below w1 (.cells (spC ⟨qa, qb, qc⟩) 81)).mono b1.size)
  have bS := Blk.new w1 81 (spC ⟨qa, qb, qc⟩)
  replace bF := bF.next b2
  replace bR := bR.next b2
  replace hB := hB.trans (b2.mono hB.size)
  clear b1 b2
  obtain ⟨⟨p0, p1, p2, p3⟩, _⟩ := bF.four
  obtain ⟨⟨s0, s1, s2⟩, _⟩ := bS.three
  dsimp only at s0 s1 s2
  by_cases he : qe = 0
  case neg =>
    have HN : Hid (statF l base p fo = (zeroN, qe)) := by have := HF.out; rw [if_pos he] at this; exact this
    clear HF hGX hxs
    obtain ⟨⟨r0, r1, r2, r3, r4, r5⟩, e0, e1, e2, e3, e4, e5⟩ := bR.six
    obtain ⟨W', hW', hb4, hg4⟩ := bR.put6 zeroN
    simp only [zeroN] at hW' r0 r1 r2 r3 r4 r5
    have hbl := below_grown hB hg4 (Nat.le_refl _) (by omega)
    go_wp2
    obtain ⟨⟨y0, y1, y2, y3, y4, y5⟩, _⟩ := hb4.six
    simp only [zeroN] at y0 y1 y2 y3 y4 y5
    refine bodyPost_ret (v := .tuple #[.agg (ndC zeroN), .int .i64 qe]) (by simp [results, Tryz.f54, go_sem, y0, y1, y2, y3, y4, y5, zeroN]) rfl ?_
    exact ⟨by rw [HN.out], hbl⟩
  subst he
  have hG := hGX _ (HV.out.below hB)
  have h2 := HF.out
  rw [if_neg (by simp)] at h2
  replace HF := Lib.hid h2
  clear h2
  clear hGX
  generalize getN l qc = X at *
  obtain ⟨xi, xk, xl, xd, xp, xe, xn⟩ := X
  dsimp only at hxs
  obtain ⟨ax, nxx, cx, rfl⟩ := hxs
  cases hh : hasN l qc
  case false =>
    have HN : Hid (statF l base p fo = (zeroN, 1)) := by have := HF.out; rw [if_pos hh] at this; exact this
    rw [hh] at hG
    clear HF
    go_wp2_with fail
    refine hG.mono ?_
    rintro e w2 ⟨rfl, b1⟩
    clear hG p0 p1 p2 p3 s0 s1 s2
    have b2 := b1.trans ((alloc_below w2 (.cells (ndC ⟨xi, xk, xl, xd, xp, .slice ax nxx cx, xn⟩) 49)).mono b1.size)
    replace bR := bR.next b2
    replace hB := hB.trans (b2.mono hB.size)
    clear b1 b2
    obtain ⟨⟨r0, r1, r2, r3, r4, r5⟩, e0, e1, e2, e3, e4, e5⟩ := bR.six
    obtain ⟨W', hW', hb4, hg4⟩ := bR.put6 zeroN
    simp only [zeroN] at hW' r0 r1 r2 r3 r4 r5
    have hbl := below_grown hB hg4 (Nat.le_refl _) (by omega)
    go_wp2
    obtain ⟨⟨y0, y1, y2, y3, y4, y5⟩, _⟩ := hb4.six
    simp only [zeroN] at y0 y1 y2 y3 y4 y5
    refine bodyPost_ret (v := .tuple #[.agg (ndC zeroN), .int .i64 1]) (by simp [results, Tryz.f54, go_sem, y0, y1, y2, y3, y4, y5, zeroN]) rfl ?_
    exact ⟨by rw [HN.out], hbl⟩
  have HN : Hid (statF l base p fo = (⟨xi, xk, xl, xd, xp, .slice ax nxx cx, xn⟩, 0)) := by have := HF.out; rw [if_neg (by rw [hh]; simp)] at this; exact this
  rw [hh] at hG
  clear HF
  go_wp2_with fail
  refine hG.mono ?_
  rintro e w2 ⟨rfl, b1⟩
  clear hG p0 p1 p2 p3 s0 s1 s2
  have b2 := b1.trans ((alloc_below w2 (.cells (ndC ⟨xi, xk, xl, xd, xp, .slice ax nxx cx, xn⟩) 49)).mono b1.size)
  have bX := Blk.new w2 49 (ndC ⟨xi, xk, xl, xd, xp, .slice ax nxx cx, xn⟩)
  replace bR := bR.next b2
  replace hB := hB.trans (b2.mono hB.size)
  clear b1 b2
  obtain ⟨⟨x0, x1, x2, x3, x4, x5⟩, _⟩ := bX.six
  dsimp only at x0 x1 x2 x3 x4 x5
  obtain ⟨⟨r0, r1, r2, r3, r4, r5⟩, e0, e1, e2, e3, e4, e5⟩ := bR.six
  obtain ⟨W', hW', hb4, hg4⟩ := bR.put6 ⟨xi, xk, xl, xd, xp, .slice ax nxx cx, xn⟩
  simp only [zeroN] at r0 r1 r2 r3 r4 r5
  dsimp only at hW'
  have hbl := below_grown hB hg4 (Nat.le_refl _) (by omega)
  go_wp2
  obtain ⟨⟨y0, y1, y2, y3, y4, y5⟩, _⟩ := hb4.six
  dsimp only at y0 y1 y2 y3 y4 y5
  refine bodyPost_ret (v := .tuple #[.agg (ndC ⟨xi, xk, xl, xd, xp, .slice ax nxx cx, xn⟩), .int .i64 0]) (by simp [results, Tryz.f54, go_sem, y0, y1, y2, y3, y4, y5]) rfl ?_
  exact ⟨by rw [HN.out], hbl⟩
theorem stat_slice {w : World} {v : Value} {l : List Nd} (h : Nds w v l) (base p : List UInt8) (fo : Bool) : ∃ a n c, (statF l base p fo).1.ev = .slice a n c := by
  unfold statF
  split
  · exact ⟨_, _, _, rfl⟩
  split
  · exact ⟨_, _, _, rfl⟩
  · exact get_slice h _
theorem nd_set3 (i k ln : Int) (d e : List UInt8) (p : Int) (v : Value) (n : List Ent) : (ndC ⟨i, k, ln, d, p, v, n⟩).setIfInBounds 3 (.string ⟨e.toArray⟩) = ndC ⟨i, k, ln, e, p, v, n⟩ := rfl
set_option maxHeartbeats 4000000 in
theorem refRead13_any (mi mb nx : Int) (l : List Nd) (base p : List UInt8) (v : Value) (w : World) (hv : Nds w v l) (hda : ∀ i, (getN l i).data.length ≤ 5000) (hb : base.length ≤ 100000) (hp : p.length ≤ 100000) :
    Calls Tryz.prog 53 #[.agg (fsC mi mb nx v), .string ⟨base.toArray⟩, .string ⟨p.toArray⟩] w fun e w' => e = .returned (.tuple #[.string ⟨(readF l base p).1.toArray⟩, .int .i64 (readF l base p).2]) ∧ Below w.heap.size w w' := by
  obtain ⟨a, ca, rfl⟩ := nds_slice hv
  have bF := Blk.new w 28 (fsC mi mb nx (.slice a l.length ca))
  have hB := alloc_below w (.cells (fsC mi mb nx (.slice a l.length ca)) 28)
  have hG := refStat_any mi mb nx l base p true _ _ (hv.below hB) hda hb hp
  have hF : readF l base p = readF l base p := rfl
  conv at hF => rhs; unfold readF
  obtain ⟨ag, ng, cg, hgs⟩ := stat_slice hv base p true
  generalize statF l base p true = G at *
  obtain ⟨⟨gi, gk, gl, gd, gp, ge, gn⟩, er⟩ := G
  dsimp only at hG hF hgs
  subst hgs
  have HF := Lib.hid hF
  clear hF hv
  obtain ⟨⟨p0, p1, p2, p3⟩, _⟩ := bF.four
  go_enter Tryz.func53, Tryz.ntmps53
  go_wp2_with fail
  refine hG.mono ?_
  rintro e w1 ⟨rfl, b1⟩
  clear hG p0 p1 p2 p3
  have b2 := alloc_below w1 (.cells (ndC ⟨gi, gk, gl, gd, gp, .slice ag ng cg, gn⟩) 49)
  have bX := Blk.new w1 49 (ndC ⟨gi, gk, gl, gd, gp, .slice ag ng cg, gn⟩)
  have hB2 := (hB.trans (b1.mono hB.size)).trans (b2.mono (hB.trans (b1.mono hB.size)).size)
  obtain ⟨⟨x0, x1, x2, x3, x4, x5⟩, _⟩ := bX.six
  dsimp only at x0 x1 x2 x3 x4 x5
  clear b1 b2 hB bF bX
  by_cases her : er = 0
  case neg =>
    have h2 := HF.out
    rw [if_pos her] at h2
    have HN := Lib.hid h2
    clear HF h2
    go_wp2
    go_ret2
    exact ⟨by rw [HN.out]; rfl, hB2⟩
  subst her
  by_cases hk : gk = 2
  · have h2 := HF.out
    rw [if_neg (by simp), if_pos hk] at h2
    have HN := Lib.hid h2
    clear HF h2
    subst hk
    go_wp2
    go_ret2
    exact ⟨by rw [HN.out]; rfl, hB2⟩
  · have h2 := HF.out
    rw [if_neg (by simp), if_neg hk] at h2
    have HN := Lib.hid h2
    clear HF h2
    go_wp2
    go_ret2
    exact ⟨by rw [HN.out]; rfl, hB2⟩
set_option maxHeartbeats 4000000 in
theorem refSet13_any (mi mb nx i : Int) (l : List Nd) (data : List UInt8) (v : Value) (w : World) (hv : Nds w v l) (hr : riseP l) (hl : l.length ≤ 1000) (hby : bytesN l ≤ 1099511627776) (hdl : data.length ≤ 1000000) (hxd : (getN l i).data.length ≤ 1000000) :
    Calls Tryz.prog 55 #[.agg (fsC mi mb nx v), .int .i64 i, .string ⟨data.toArray⟩] w fun e w' => ∃ y, e = .returned (.tuple #[.agg (fsC mi mb nx y), .int .i64 (setF mi mb l i data).2]) ∧ MadeFs w v l w' y (setF mi mb l i data).1 ∧ Below w.heap.size w w' := by
  obtain ⟨a, ca, rfl⟩ := nds_slice hv
  have bF := (Blk.new w 28 (fsC mi mb nx (.slice a l.length ca))).alloc (.cells (fsC 0 0 0 (.slice none 0 0)) 28)
  have bR := Blk.new (w.alloc (.cells (fsC mi mb nx (.slice a l.length ca)) 28)) 28 (fsC 0 0 0 (.slice none 0 0))
  have hB := ((Below.refl w.heap.size w).alloc (Nat.le_refl _) (.cells (fsC mi mb nx (.slice a l.length ca)) 28)).alloc (by simp) (.cells (fsC 0 0 0 (.slice none 0 0)) 28)
  simp only [World.size_alloc] at bR
  have HV := Lib.hid hv
  have hG := refGetT_any mi mb nx i l _ _ (hv.below hB)
  have hF : setF mi mb l i data = setF mi mb l i data := rfl
  conv at hF => rhs; unfold setF dataL
  have hEX := fun W (h : EntsAll W l) => get_ents h i
  obtain ⟨ax, nxx, cx, hxs⟩ := get_slice hv i
  generalize getN l i = X at *
  generalize hasN l i = hs1 at *
  obtain ⟨xi, xk, xl, xd, xp, xe, xn⟩ := X
  dsimp only at hxs hF hEX hxd
  subst hxs
  have HF := Lib.hid hF
  have HEX := Lib.hid hEX
  clear hF hv hEX
  have hwx : IntKind.i64.wrap ((data.length : Int) - (xd.length : Int)) = (data.length : Int) - (xd.length : Int) := by rw [IntKind.wrap_i64]; omega
  obtain ⟨⟨p0, p1, p2, p3⟩, _⟩ := bF.four
  go_enter Tryz.func55, Tryz.ntmps55
  go_wp2_with fail
  refine hG.mono ?_
  rintro e w1 ⟨rfl, b1⟩
  clear hG p0 p1 p2 p3
  have b2 := b1.trans ((alloc_below w1 (.cells (ndC ⟨xi, xk, xl, xd, xp, .slice ax nxx cx, xn⟩) 49)).mono b1.size)
  have bX := Blk.new w1 49 (ndC ⟨xi, xk, xl, xd, xp, .slice ax nxx cx, xn⟩)
  have hXl : w.heap.size + 1 < w1.heap.size := (bR.next b1).lt
  replace bF := bF.next b2
  replace bR := bR.next b2
  replace hB := hB.trans (b2.mono hB.size)
  clear b1 b2
  have hFt := refFits_any mi mb nx 0 ((data.length : Int) - (xd.length : Int)) l _ _ (HV.out.below hB) (by omega) hby (by decide) (by omega)
  obtain ⟨⟨p0, p1, p2, p3⟩, _⟩ := bF.four
  obtain ⟨⟨x0, x1, x2, x3, x4, x5⟩, _⟩ := bX.six
  dsimp only at x0 x1 x2 x3 x4 x5
  go_wp2_with fail
  refine hFt.mono ?_
  rintro e w2 ⟨rfl, b1⟩
  clear hFt p0 p1 p2 p3 x0 x1 x2 x3 x4 x5
  replace bF := bF.next b1
  replace bR := bR.next b1
  replace bX := bX.next b1
  replace hB := hB.trans (b1.mono hB.size)
  clear b1
  generalize w1.heap.size = BX at *
  obtain ⟨⟨p0, p1, p2, p3⟩, _⟩ := bF.four
  cases hf : fitsB mi mb l 0 ((data.length : Int) - (xd.length : Int))
  case false =>
    have h2 := HF.out
    rw [if_pos hf] at h2
    have HN := Lib.hid h2
    clear HF h2
    obtain ⟨⟨r0, r1, r2, r3⟩, e0, e1, e2, e3⟩ := bR.four
    obtain ⟨W', hW', hb4, hg4⟩ := bR.put4 (.int .i64 mi) (.int .i64 mb) (.int .i64 nx) (.slice a l.length ca)
    have hbl := below_grown hB hg4 (Nat.le_refl _) (by omega)
    go_wp2
    obtain ⟨⟨y0, y1, y2, y3⟩, _⟩ := hb4.four
    refine bodyPost_ret (v := .tuple #[.agg (fsC mi mb nx (.slice a l.length ca)), .int .i64 8]) (by simp [results, Tryz.f55, go_sem, y0, y1, y2, y3]) rfl ?_
    exact ⟨_, by rw [HN.out], by rw [HN.out]; exact MadeFs.same _ _ _ _, hbl⟩
  have h2 := HF.out
  rw [if_neg (by rw [hf]; simp)] at h2
  have HN := Lib.hid h2
  clear HF h2
  obtain ⟨⟨x0, x1, x2, x3, x4, x5⟩, f0, f1, f2, f3, f4, f5⟩ := bX.six
  dsimp only at x0 x1 x2 x3 x4 x5
  have bX5 := bX.set 3 (.string ⟨data.toArray⟩)
  rw [nd_set3] at bX5
  have bF5 := bF.other (B2 := BX) (i := 3) (by omega) (.string ⟨data.toArray⟩)
  have bR5 := bR.other (B2 := BX) (i := 3) (by omega) (.string ⟨data.toArray⟩)
  have hB5 := hB.setCell (p := ⟨BX, 3, none⟩) (by show w.heap.size ≤ BX; omega) (.string ⟨data.toArray⟩)
  clear p0 p1 p2 p3
  generalize hw5 : World.setCell w2 ⟨BX, 3, none⟩ (.string ⟨data.toArray⟩) = w5 at *
  obtain ⟨⟨p0, p1, p2, p3⟩, _⟩ := bF5.four
  obtain ⟨⟨y0, y1, y2, y3, y4, y5⟩, _⟩ := bX5.six
  dsimp only at y0 y1 y2 y3 y4 y5
  clear bF bR bX hB
  have hSe := refSetT_any mi mb nx l ⟨xi, xk, xl, data, xp, .slice ax nxx cx, xn⟩ _ _ (HV.out.below hB5) (HEX.out _ (HV.out.below hB5).all) hr (by omega)
  go_wp2_with fail
  refine hSe.mono ?_
  rintro e w9 ⟨v9, rfl, hnew⟩
  obtain ⟨a9, c9, rfl⟩ := own_slice hnew.1
  have b9 := hnew.2
  have hB9 := hB5.trans (b9.mono hB5.size)
  have bR9 := bR5.next b9
  have hRl8 := bR5.lt
  have hown9 := hnew.1
  clear p0 p1 p2 p3 x0 x1 x2 x3 x4 x5 y0 y1 y2 y3 y4 y5 f0 f1 f2 f3 f4 f5
  obtain ⟨_, e0, e1, e2, e3⟩ := bR9.four
  obtain ⟨W', hW', hb4, hg4⟩ := bR9.put4 (.int .i64 mi) (.int .i64 mb) (.int .i64 nx) (.slice a9 (setN l ⟨xi, xk, xl, data, xp, .slice ax nxx cx, xn⟩).length c9)
  have hbl := below_grown hB9 hg4 (Nat.le_refl _) (by omega)
  have hNW : MadeFs w (.slice a l.length ca) l W' (.slice a9 (setN l ⟨xi, xk, xl, data, xp, .slice ax nxx cx, xn⟩).length c9) (setN l ⟨xi, xk, xl, data, xp, .slice ax nxx cx, xn⟩) := fun W hkW hvW => by
    refine own_nds (own_kept (hown9.kept hg4 (own_not hown9 hRl8)) hkW (by omega)) fun z hz => ?_
    rcases mem_setN hz with rfl | h
    · exact HEX.out W hvW.all
    · exact hvW.all z h
  clear hSe hnew bF5 bR5 bX5 hB5 b9 hB9 bR9 hown9
  go_wp2
  obtain ⟨⟨r0, r1, r2, r3⟩, _⟩ := hb4.four
  refine bodyPost_ret (v := .tuple #[.agg (fsC mi mb nx (.slice a9 (setN l ⟨xi, xk, xl, data, xp, .slice ax nxx cx, xn⟩).length c9)), .int .i64 0]) (by simp [results, Tryz.f55, go_sem, r0, r1, r2, r3]) rfl ?_
  exact ⟨_, by rw [HN.out], by rw [HN.out]; exact hNW, hbl⟩
set_option maxHeartbeats 4000000 in
theorem refWrite13_any (mi mb nx : Int) (l : List Nd) (base p data : List UInt8) (v : Value) (w : World) (hv : Nds w v l) (hf : Fit l) (hb : base.length ≤ 100000) (hp : p.length ≤ 100000) (hdl : data.length ≤ 1000000) :
    Calls Tryz.prog 28 #[.agg (fsC mi mb nx v), .string ⟨base.toArray⟩, .string ⟨p.toArray⟩, .string ⟨data.toArray⟩] w fun e w' => ∃ y, e = .returned (.tuple #[.agg (fsC mi mb nx y), .int .i64 (writeF mi mb l base p data).2]) ∧ MadeFs w v l w' y (writeF mi mb l base p data).1 ∧ Below w.heap.size w w' := by
  obtain ⟨a, ca, rfl⟩ := nds_slice hv
  have bF := (Blk.new w 28 (fsC mi mb nx (.slice a l.length ca))).alloc (.cells (fsC 0 0 0 (.slice none 0 0)) 28)
  have bR := Blk.new (w.alloc (.cells (fsC mi mb nx (.slice a l.length ca)) 28)) 28 (fsC 0 0 0 (.slice none 0 0))
  have hB := ((Below.refl w.heap.size w).alloc (Nat.le_refl _) (.cells (fsC mi mb nx (.slice a l.length ca)) 28)).alloc (by simp) (.cells (fsC 0 0 0 (.slice none 0 0)) 28)
  simp only [World.size_alloc] at bR
  have HV := Lib.hid hv
  have hda : ∀ i, (getN l i).data.length ≤ 5000 := fun i => (calm_get hf.calm i).2.2.1
  have hRd := refRead13_any mi mb nx l base p _ _ (hv.below hB) hda hb hp
  have hSt := fun w' (h : Nds w' (.slice a l.length ca) l) => refStat_any mi mb nx l base p true _ w' h hda hb hp
  have hSe := fun i w' (h : Nds w' (.slice a l.length ca) l) => refSet13_any mi mb nx i l data _ w' h hf.calm.rise (by have := hf.calm.len; omega) (by have := hf.bytes; omega) hdl (by have := hda i; omega)
  have hF : writeF mi mb l base p data = writeF mi mb l base p data := rfl
  conv at hF => rhs; unfold writeF
  obtain ⟨ax, nxx, cx, hxs⟩ := stat_slice hv base p true
  generalize statF l base p true = G at *
  generalize readF l base p = R at *
  obtain ⟨⟨xi, xk, xl, xd, xp, xe, xn⟩, er⟩ := G
  obtain ⟨rd, re⟩ := R
  dsimp only at hRd hSt hxs hF
  subst hxs
  have HF := Lib.hid hF
  clear hF hv hda
  obtain ⟨⟨p0, p1, p2, p3⟩, _⟩ := bF.four
  go_enter Tryz.func28, Tryz.ntmps28
  go_wp2_with fail
  refine hRd.mono ?_
  rintro e w1 ⟨rfl, b1⟩
  clear hRd p0 p1 p2 p3
  replace bF := bF.next b1
  replace bR := bR.next b1
  replace hB := hB.trans (b1.mono hB.size)
  clear b1
  obtain ⟨⟨p0, p1, p2, p3⟩, _⟩ := bF.four
  by_cases he : re = 0
  case neg =>
    have h2 := HF.out
    rw [if_pos he] at h2
    have HN := Lib.hid h2
    clear HF h2 hSt hSe
    obtain ⟨⟨r0, r1, r2, r3⟩, e0, e1, e2, e3⟩ := bR.four
    obtain ⟨W', hW', hb4, hg4⟩ := bR.put4 (.int .i64 mi) (.int .i64 mb) (.int .i64 nx) (.slice a l.length ca)
    have hbl := below_grown hB hg4 (Nat.le_refl _) (by omega)
    go_wp2
    obtain ⟨⟨y0, y1, y2, y3⟩, _⟩ := hb4.four
    refine bodyPost_ret (v := .tuple #[.agg (fsC mi mb nx (.slice a l.length ca)), .int .i64 re]) (by simp [results, Tryz.f28, go_sem, y0, y1, y2, y3]) rfl ?_
    exact ⟨_, by rw [HN.out], by rw [HN.out]; exact MadeFs.same _ _ _ _, hbl⟩
  subst he
  have h2 := HF.out
  rw [if_neg (by simp)] at h2
  have HN := Lib.hid h2
  clear HF h2
  go_wp2_with fail
  refine (hSt _ (HV.out.below hB)).mono ?_
  rintro e w2 ⟨rfl, b1⟩
  clear hSt p0 p1 p2 p3
  have b2 := b1.trans ((alloc_below w2 (.cells (ndC ⟨xi, xk, xl, xd, xp, .slice ax nxx cx, xn⟩) 49)).mono b1.size)
  have bX := Blk.new w2 49 (ndC ⟨xi, xk, xl, xd, xp, .slice ax nxx cx, xn⟩)
  replace bF := bF.next b2
  replace bR := bR.next b2
  replace hB := hB.trans (b2.mono hB.size)
  clear b1 b2
  obtain ⟨⟨p0, p1, p2, p3⟩, _⟩ := bF.four
  obtain ⟨⟨x0, x1, x2, x3, x4, x5⟩, _⟩ := bX.six
  dsimp only at x0 x1 x2 x3 x4 x5
  go_wp2_with fail
  refine (hSe xi _ (HV.out.below hB)).mono ?_
  rintro e w5 ⟨y, rfl, hN, b3⟩
  obtain ⟨ay, cy, rfl⟩ := nds_slice (hN.now (HV.out.below hB) b3)
  generalize setF mi mb l xi data = Z at *
  obtain ⟨Z, ze⟩ := Z
  dsimp only at hN
  have hRl := bR.lt
  have hsz := hB.size
  clear hSe p0 p1 p2 p3 x0 x1 x2 x3 x4 x5
  have bR3 := bR.next b3
  have hB3 := hB.trans (b3.mono hB.size)
  obtain ⟨⟨r0, r1, r2, r3⟩, e0, e1, e2, e3⟩ := bR3.four
  obtain ⟨W', hW', hb4, hg4⟩ := bR3.put4 (.int .i64 mi) (.int .i64 mb) (.int .i64 nx) (.slice ay Z.length cy)
  have hbl := below_grown hB3 hg4 (Nat.le_refl _) (by omega)
  have hM := hN.up (w := w) (w' := W') hsz (Kept.grown hg4 hRl)
  go_wp2
  obtain ⟨⟨y0, y1, y2, y3⟩, _⟩ := hb4.four
  refine bodyPost_ret (v := .tuple #[.agg (fsC mi mb nx (.slice ay Z.length cy)), .int .i64 ze]) (by simp [results, Tryz.f28, go_sem, y0, y1, y2, y3]) rfl ?_
  exact ⟨_, by rw [HN.out], by rw [HN.out]; exact hM, hbl⟩
theorem inside_hit {l : List Nd} {d o : Int} {k : Nat} (hk : k ≤ l.length) (h : parN l k d = o) : insideN l d o = true := by
  unfold insideN
  rw [List.any_eq_true]
  exact ⟨k, List.mem_range.2 (by omega), by simpa using h⟩
theorem inside_none {l : List Nd} {d o : Int} (h : ∀ k, k < l.length + 1 → parN l k d ≠ o) : insideN l d o = false := by
  unfold insideN
  rw [List.any_eq_false]
  exact fun k hk => by simpa using h k (List.mem_range.1 hk)
theorem par_succ (l : List Nd) (k : Nat) (d : Int) : parN l (k + 1) d = (getN l (parN l k d)).parent := par_add l k 1 d
set_option maxHeartbeats 4000000 in
theorem refInside_any (mi mb nx d o : Int) (l : List Nd) (v : Value) (w : World) (hv : Nds w v l) (hl : l.length ≤ 1000) :
    Calls Tryz.prog 61 #[.agg (fsC mi mb nx v), .int .i64 d, .int .i64 o] w fun e w' => e = .returned (.bool (insideN l d o)) ∧ Below w.heap.size w w' := by
  obtain ⟨a, ca, rfl⟩ := nds_slice hv
  have HV := Lib.hid hv
  clear hv
  have b0 := Blk.new w 28 (fsC mi mb nx (.slice a l.length ca))
  have hB0 : Below w.heap.size w (w.alloc (.cells (fsC mi mb nx (.slice a l.length ca)) 28)) := (Below.refl _ w).alloc (Nat.le_refl _) _
  go_enter Tryz.func61, Tryz.ntmps61
  go_wp2
  go_loopw [1, 7] (fun s1 s7 wr => ∃ k : Nat, k ≤ l.length + 1 ∧ s7 = .int .i64 k ∧ s1 = .int .i64 (parN l k d) ∧ Aside (∀ j, j < k → parN l j d ≠ o) ∧ Below w.heap.size w wr ∧ Aside (Blk wr w.heap.size 28 (fsC mi mb nx (.slice a l.length ca)))) (fun _ s7 _ => l.length + 1 - (intOf s7).toNat)
  case atStart => exact ⟨0, by omega, rfl, rfl, fun j h => absurd h (by omega), hB0, b0⟩
  case round =>
    obtain ⟨k, hk, rfl, rfl, HT, hB, HB⟩ := hrel
    have bF := HB.out
    obtain ⟨⟨p0, p1, p2, p3⟩, _⟩ := bF.four
    clear b0 hB0
    by_cases hlt : k ≤ l.length
    · by_cases he : parN l k d = o
      · have HN := Lib.hid (inside_hit hlt he)
        rw [he]
        clear he HT
        go_wp2
        go_ret
        exact ⟨by rw [HN.out]; rfl, hB⟩
      · have HT2 : Hid (∀ j, j < k + 1 → parN l j d ≠ o) := fun j h => by
          rcases Nat.lt_or_ge j k with h' | h'
          · exact HT.out j h'
          · obtain rfl : j = k := by omega
            exact he
        have HS := Lib.hid (par_succ l k d)
        generalize parN l k d = z at *
        have hG := refGetT_any mi mb nx z l _ _ (HV.out.below hB)
        obtain ⟨ax, nxx, cx, hxs⟩ := get_slice HV.out z
        generalize getN l z = X at *
        generalize hasN l z = hs1 at *
        obtain ⟨xi, xk, xl, xd, xp, xe, xn⟩ := X
        dsimp only at hxs
        subst hxs
        go_wp2_with fail
        refine hG.mono ?_
        rintro e w2 ⟨rfl, b1⟩
        clear hG p0 p1 p2 p3
        have b2 := b1.trans ((alloc_below w2 (.cells (ndC ⟨xi, xk, xl, xd, xp, .slice ax nxx cx, xn⟩) 49)).mono b1.size)
        have bX := Blk.new w2 49 (ndC ⟨xi, xk, xl, xd, xp, .slice ax nxx cx, xn⟩)
        have bF2 := bF.next b2
        have hB2 := hB.trans (b2.mono hB.size)
        obtain ⟨⟨x0, x1, x2, x3, x4, x5⟩, _⟩ := bX.six
        dsimp only at x0 x1 x2 x3 x4 x5
        go_wp2
        go_roundw
        case rel => exact ⟨k + 1, by omega, by go_num, by rw [HS.out], HT2.out, hB2, bF2⟩
        case measure => simp [intOf]; omega
    · obtain rfl : k = l.length + 1 := by omega
      have HN := Lib.hid (inside_none HT.out)
      clear HT
      go_wp2
      go_ret
      exact ⟨by rw [HN.out]; rfl, hB⟩
theorem nd_set4 (i k ln : Int) (d : List UInt8) (p q : Int) (v : Value) (n : List Ent) : (ndC ⟨i, k, ln, d, p, v, n⟩).setIfInBounds 4 (.int .i64 q) = ndC ⟨i, k, ln, d, q, v, n⟩ := rfl
set_option maxHeartbeats 16000000 in
set_option maxRecDepth 100000 in
theorem refMove_any (mi mb nx : Int) (l : List Nd) (A B : Sp) (v : Value) (w : World) (hv : Nds w v l) (hr : riseP l) (hl : l.length ≤ 1000) (hso : sortP (getN l B.dir).ents) (hel : (getN l B.dir).ents.length ≤ 1000) (hln : -4611686018427387904 ≤ (getN l B.ino).links ∧ (getN l B.ino).links ≤ 4611686018427387904)
    (hT : ∀ ev, riseP (tL l B ev) ∧ (tL l B ev).length ≤ 1000 ∧ sortP (getN (tL l B ev) A.dir).ents ∧ (getN (tL l B ev) A.dir).ents.length ≤ 1000 ∧ ∀ e1, sortP (getN (setN (tL l B ev) (lessD (getN (tL l B ev) A.dir) A.name e1)) B.dir).ents ∧ (getN (setN (tL l B ev) (lessD (getN (tL l B ev) A.dir) A.name e1)) B.dir).ents.length ≤ 1000) :
    Calls Tryz.prog 62 #[.agg (fsC mi mb nx v), .agg (spC A), .agg (spC B)] w fun e w' => ∃ y ev e1 e2, e = .returned (.agg (fsC mi mb nx y)) ∧ MadeFs w v l w' y (mvL (tL l B ev) A.dir A.name A.ino B.dir B.name e1 e2) ∧ Below w.heap.size w w' := by
  obtain ⟨a, ca, rfl⟩ := nds_slice hv
  obtain ⟨ad, an_, ai_⟩ := A
  obtain ⟨bd, bn_, bi⟩ := B
  dsimp only at hso hel hln hT ⊢
  have bF := (((Blk.new w 28 (fsC mi mb nx (.slice a l.length ca))).alloc (.cells (spC ⟨ad, an_, ai_⟩) 81)).alloc (.cells (spC ⟨bd, bn_, bi⟩) 81)).alloc (.cells (fsC 0 0 0 (.slice none 0 0)) 28)
  have bA := ((Blk.new (w.alloc (.cells (fsC mi mb nx (.slice a l.length ca)) 28)) 81 (spC ⟨ad, an_, ai_⟩)).alloc (.cells (spC ⟨bd, bn_, bi⟩) 81)).alloc (.cells (fsC 0 0 0 (.slice none 0 0)) 28)
  have bB := (Blk.new ((w.alloc (.cells (fsC mi mb nx (.slice a l.length ca)) 28)).alloc (.cells (spC ⟨ad, an_, ai_⟩) 81)) 81 (spC ⟨bd, bn_, bi⟩)).alloc (.cells (fsC 0 0 0 (.slice none 0 0)) 28)
  have bR := Blk.new (((w.alloc (.cells (fsC mi mb nx (.slice a l.length ca)) 28)).alloc (.cells (spC ⟨ad, an_, ai_⟩) 81)).alloc (.cells (spC ⟨bd, bn_, bi⟩) 81)) 28 (fsC 0 0 0 (.slice none 0 0))
  have hB : Below w.heap.size w ((((w.alloc (.cells (fsC mi mb nx (.slice a l.length ca)) 28)).alloc (.cells (spC ⟨ad, an_, ai_⟩) 81)).alloc (.cells (spC ⟨bd, bn_, bi⟩) 81)).alloc (.cells (fsC 0 0 0 (.slice none 0 0)) 28)) := ((((Below.refl _ w).alloc (Nat.le_refl _) _).alloc (by simp) _).alloc (by simp; omega) _).alloc (by simp; omega) _
  simp only [World.size_alloc] at bA bB bR
  have HV := Lib.hid hv
  clear hv
  have HT := Lib.hid hT
  clear hT
  go_enter Tryz.func62, Tryz.ntmps62
  have hRl := bR.lt
  obtain ⟨⟨p0, p1, p2, p3⟩, _⟩ := bF.four
  obtain ⟨⟨t0, t1, t2⟩, _⟩ := bB.three
  dsimp only at t0 t1 t2
  go_upto_if 15 with (fail)
  generalize (((w.alloc (.cells (fsC mi mb nx (.slice a l.length ca)) 28)).alloc (.cells (spC ⟨ad, an_, ai_⟩) 81)).alloc (.cells (spC ⟨bd, bn_, bi⟩) 81)).alloc (.cells (fsC 0 0 0 (.slice none 0 0)) 28) = w0 at *
  have hF0 : w.heap.size < w0.heap.size := by omega
  go_cut [3] from 15 (fun s3 wc => s3 = .pointer (some ⟨w.heap.size, 0, none⟩) ∧ ∃ L1 a1 c1 ev, Aside (L1 = tL l ⟨bd, bn_, bi⟩ ev ∧ Blk wc w.heap.size 28 (fsC mi mb nx (.slice a1 L1.length c1)) ∧ Blk wc (w.heap.size + 1) 81 (spC ⟨ad, an_, ai_⟩) ∧ Blk wc (w.heap.size + 1 + 1) 81 (spC ⟨bd, bn_, bi⟩) ∧ Blk wc (w.heap.size + 1 + 1 + 1) 28 (fsC 0 0 0 (.slice none 0 0)) ∧ Below w.heap.size w wc ∧ MadeFs w0 (.slice a l.length ca) l wc (.slice a1 L1.length c1) L1 ∧ w0.heap.size ≤ wc.heap.size))
  case first =>
    by_cases hb0 : bi = 0
    · subst hb0
      go_wp2_with fail
      go_meet
      exact ⟨rfl, l, a, ca, .slice none 0 0, rfl, bF, bA, bB, bR, hB, MadeFs.same _ _ _ _, Nat.le_refl _⟩
    · have hU := refUnname_any mi mb nx l ⟨bd, bn_, bi⟩ _ _ (HV.out.below hB) hr hso hel hl hln
      have hu : ∀ ev, unL l bd bn_ bi ev = tL l ⟨bd, bn_, bi⟩ ev := fun ev => by unfold tL; rw [if_pos hb0]
      have HU := Lib.hid hu
      clear hu
      go_wp2_with fail
      refine hU.mono ?_
      rintro e x1 ⟨y, ev, rfl, hN, b1⟩
      obtain ⟨ay, cy, rfl⟩ := nds_slice (hN.now (HV.out.below hB) b1)
      have hTL := HU.out ev
      generalize unL l bd bn_ bi ev = Z at *
      clear hU p0 p1 p2 p3 t0 t1 t2
      have bF1 := bF.next b1
      obtain ⟨_, f0, f1, f2, f3⟩ := bF1.four
      obtain ⟨W', hW', bF2, hg⟩ := bF1.put4 (.int .i64 mi) (.int .i64 mb) (.int .i64 nx) (.slice ay Z.length cy)
      have h1 := (bA.next b1).kept hg (by simp)
      have h2 := (bB.next b1).kept hg (by simp; omega)
      have h3 := (bR.next b1).kept hg (by simp; omega)
      have h4 := below_grown (hB.trans (b1.mono hB.size)) hg (Nat.le_refl _) (Nat.le_refl _)
      have h5 := hN.up (Nat.le_refl _) (Kept.grown hg hF0)
      have h6 := Nat.le_trans b1.size hg.size
      have HH := Lib.hid (show _ ∧ _ ∧ _ ∧ _ ∧ _ ∧ _ ∧ _ ∧ _ from ⟨hTL, bF2, h1, h2, h3, h4, h5, h6⟩)
      clear hTL h1 h2 h3 h4 h5 h6 bF2
      go_wp2_with fail
      go_meet
      exact ⟨rfl, Z, ay, cy, ev, HH.out⟩
  case rest =>
   obtain ⟨rfl, L1, a1, c1, ev, HQ⟩ := hcut
   obtain ⟨hL1, bF1, bA1, bB1, bR1, hB1, MF1, hsz1⟩ := HQ.out
   clear HQ bF bA bB bR hB p0 p1 p2 p3 t0 t1 t2 hso hel hln
   rename World => w1
   have hc := HT.out ev
   rw [← hL1] at hc
   obtain ⟨hr1, hl1, hs1, hs2, hs3⟩ := hc
   have hmv : ∀ e1 e2, mvL L1 ad an_ ai_ bd bn_ e1 e2 = if (getN (setN (setN L1 (lessD (getN L1 ad) an_ e1)) (moreD (getN (setN L1 (lessD (getN L1 ad) an_ e1)) bd) bn_ ai_ e2)) ai_).kind = 2 then setN (setN (setN L1 (lessD (getN L1 ad) an_ e1)) (moreD (getN (setN L1 (lessD (getN L1 ad) an_ e1)) bd) bn_ ai_ e2)) { getN (setN (setN L1 (lessD (getN L1 ad) an_ e1)) (moreD (getN (setN L1 (lessD (getN L1 ad) an_ e1)) bd) bn_ ai_ e2)) ai_ with parent := bd } else setN (setN L1 (lessD (getN L1 ad) an_ e1)) (moreD (getN (setN L1 (lessD (getN L1 ad) an_ e1)) bd) bn_ ai_ e2) := fun _ _ => rfl
   have hq : sortP (getN L1 ad).ents ∧ (getN L1 ad).ents.length ≤ 1000 ∧ ∀ e1, sortP (getN (setN L1 (lessD (getN L1 ad) an_ e1)) bd).ents ∧ (getN (setN L1 (lessD (getN L1 ad) an_ e1)) bd).ents.length ≤ 1000 ∧ ∀ e2, ∃ f1 f2, mvL L1 ad an_ ai_ bd bn_ f1 f2 = if (getN (setN (setN L1 (lessD (getN L1 ad) an_ e1)) (moreD (getN (setN L1 (lessD (getN L1 ad) an_ e1)) bd) bn_ ai_ e2)) ai_).kind = 2 then setN (setN (setN L1 (lessD (getN L1 ad) an_ e1)) (moreD (getN (setN L1 (lessD (getN L1 ad) an_ e1)) bd) bn_ ai_ e2)) { getN (setN (setN L1 (lessD (getN L1 ad) an_ e1)) (moreD (getN (setN L1 (lessD (getN L1 ad) an_ e1)) bd) bn_ ai_ e2)) ai_ with parent := bd } else setN (setN L1 (lessD (getN L1 ad) an_ e1)) (moreD (getN (setN L1 (lessD (getN L1 ad) an_ e1)) bd) bn_ ai_ e2) := ⟨hs1, hs2, fun e1 => ⟨(hs3 e1).1, (hs3 e1).2, fun e2 => ⟨e1, e2, hmv e1 e2⟩⟩⟩
   unfold lessD moreD at hq
   clear hmv hs1 hs2 hs3 HT
   subst hL1
   generalize hLL : tL l ⟨bd, bn_, bi⟩ ev = L1 at *
   have HLL := Lib.hid hLL
   clear hLL
   have HP1 := Lib.hid hq
   clear hq
   have NV1 := MF1 _ (Kept.refl _ _) (HV.out.below hB1)
   have hG := refGetT_any mi mb nx ad L1 _ _ NV1
   have hEG := get_ents NV1.all ad
   obtain ⟨ag, ng, cg, hgs⟩ := get_slice NV1 ad
   have hq := HP1.out
   generalize getN L1 ad = G at *
   generalize hasN L1 ad = hs1 at *
   obtain ⟨gi, gk, gl, gd, gp, ge, gn⟩ := G
   dsimp only at hgs hEG hq
   subst hgs
   obtain ⟨hsoK, helK, hq⟩ := hq
   have HQ1 := Lib.hid hq
   clear hq HP1
   obtain ⟨⟨p0, p1, p2, p3⟩, _⟩ := bF1.four
   obtain ⟨⟨s0, s1, s2⟩, _⟩ := bA1.three
   obtain ⟨⟨t0, t1, t2⟩, _⟩ := bB1.three
   dsimp only at s0 s1 s2 t0 t1 t2
   go_wp2_with fail
   refine hG.mono ?_
   rintro e x1 ⟨rfl, b1⟩
   clear hG p0 p1 p2 p3 s0 s1 s2 t0 t1 t2
   have k1 := b1.trans ((alloc_below x1 (.cells (ndC ⟨gi, gk, gl, gd, gp, .slice ag ng cg, gn⟩) 49)).mono b1.size)
   have bD := Blk.new x1 49 (ndC ⟨gi, gk, gl, gd, gp, .slice ag ng cg, gn⟩)
   have hDl : w1.heap.size ≤ x1.heap.size := b1.size
   have hRx : w.heap.size + 1 + 1 + 1 < x1.heap.size := (bR1.next b1).lt
   have bFx := bF1.next k1
   have bAx := bA1.next k1
   have bBx := bB1.next k1
   have bRx := bR1.next k1
   replace hEG := hEG.below k1
   clear b1
   obtain ⟨⟨s0, s1, s2⟩, _⟩ := bAx.three
   obtain ⟨⟨t0, t1, t2⟩, _⟩ := bBx.three
   obtain ⟨⟨x0, x1', x2, x3, x4, x5⟩, _⟩ := bD.six
   dsimp only at s0 s1 s2 t0 t1 t2 x0 x1' x2 x3 x4 x5
   have hWi := refWithoutS_any gn an_ _ _ hEG hsoK (by omega)
   go_wp2_with fail
   refine hWi.mono ?_
   rintro e x3w ⟨vn, rfl, hown, b3⟩
   clear hWi s0 s1 s2 t0 t1 t2 x0 x1' x2 x3 x4 x5 hEG
   obtain ⟨an, cn, rfl⟩ := own_slice hown
   have hoB : x1.heap.size < (x1.alloc (.cells (ndC ⟨gi, gk, gl, gd, gp, .slice ag ng cg, gn⟩) 49)).heap.size := by simp
   replace k1 := k1.trans (b3.mono k1.size)
   replace bFx := bFx.next b3
   replace bAx := bAx.next b3
   replace bBx := bBx.next b3
   replace bRx := bRx.next b3
   replace bD := bD.next b3
   clear b3
   generalize withoutB gn an_ = m at *
   obtain ⟨⟨x0, x1', x2, x3, x4, x5⟩, f0, f1, f2, f3, f4, f5⟩ := bD.six
   dsimp only at x0 x1' x2 x3 x4 x5
   have bD5 := bD.set 5 (.slice an m.length cn)
   rw [nd_set5 gi gk gl gd gp (.slice ag ng cg) (.slice an m.length cn) gn m] at bD5
   have bF5 := bFx.other (B2 := x1.heap.size) (i := 5) (by omega) (.slice an m.length cn)
   have bA5 := bAx.other (B2 := x1.heap.size) (i := 5) (by omega) (.slice an m.length cn)
   have bB5 := bBx.other (B2 := x1.heap.size) (i := 5) (by omega) (.slice an m.length cn)
   have bR5 := bRx.other (B2 := x1.heap.size) (i := 5) (by omega) (.slice an m.length cn)
   have k5 := k1.setCell (p := ⟨x1.heap.size, 5, none⟩) hDl (.slice an m.length cn)
   generalize (x1.alloc (.cells (ndC ⟨gi, gk, gl, gd, gp, .slice ag ng cg, gn⟩) 49)).heap.size = NB at *
   have hown5 := World.ownsRow.kept hown (grownBy_set x3w x1.heap.size 5 (.slice an m.length cn)) (own_not hown (by omega))
   generalize hw5 : World.setCell x3w ⟨x1.heap.size, 5, none⟩ (.slice an m.length cn) = x5w at *
   clear bFx bAx bBx bRx bD k1 hown
   generalize x1.heap.size = BD at *
   have hB5 := hB1.trans (k5.mono hB1.size)
   obtain ⟨⟨p0, p1, p2, p3⟩, _⟩ := bF5.four
   obtain ⟨⟨d0, d1, d2, d3, d4, d5⟩, _⟩ := bD5.six
   dsimp only at d0 d1 d2 d3 d4 d5
   have NV5 := MF1 _ (Kept.of_below k5) (HV.out.below hB5)
   have hS := refSetT_any mi mb nx L1 ⟨gi, gk, gl, gd, gp, .slice an m.length cn, m⟩ _ _ NV5 (own_ents hown5) hr1 (by omega)
   have hr2 : riseP (setN L1 ⟨gi, gk, gl, gd, gp, .slice an m.length cn, m⟩) := set_rise _ hr1
   have hl2 := setN_len L1 ⟨gi, gk, gl, gd, gp, .slice an m.length cn, m⟩
   have HM := Lib.hid (show ∀ z ∈ setN L1 ⟨gi, gk, gl, gd, gp, .slice an m.length cn, m⟩, z = ⟨gi, gk, gl, gd, gp, .slice an m.length cn, m⟩ ∨ z ∈ L1 from fun z hz => mem_setN hz)
   have HP2 := Lib.hid (HQ1.out (.slice an m.length cn))
   clear HQ1 NV5 NV1
   generalize setN L1 ⟨gi, gk, gl, gd, gp, .slice an m.length cn, m⟩ = L2 at *
   go_wp2_with fail
   refine hS.mono ?_
   rintro e x7 ⟨v7, rfl, hnew⟩
   obtain ⟨a2, c2, rfl⟩ := own_slice hnew.1
   have b7 := hnew.2
   have hown7 := hnew.1
   have k7 := k5.trans (b7.mono k5.size)
   have bF7 := bF5.next b7
   have bA7 := bA5.next b7
   have bB7 := bB5.next b7
   have bR7 := bR5.next b7
   have hownE := own_keep hown5 b7
   have hz5 : w1.heap.size ≤ x5w.heap.size := k5.size
   have hB7 := hB5.trans (b7.mono hB5.size)
   have hz7 := b7.size
   clear hS hnew b7 p0 p1 p2 p3 d0 d1 d2 d3 d4 d5 x0 x1' x2 x3 x4 x5 bF5 bR5 bA5 bB5 bD5 hB5 hown5 f0 f1 f2 f3 f4 f5 k5
   obtain ⟨_, f0, f1, f2, f3⟩ := bF7.four
   obtain ⟨w2, hw2, bF2, hg8⟩ := bF7.put4 (.int .i64 mi) (.int .i64 mb) (.int .i64 nx) (.slice a2 L2.length c2)
   have bR2 := bR7.kept hg8 (by simp; omega)
   have bA2 := bA7.kept hg8 (by simp)
   have bB2 := bB7.kept hg8 (by simp; omega)
   have hB2 := below_grown hB7 hg8 (Nat.le_refl _) (Nat.le_refl _)
   have hsz2 : w0.heap.size ≤ w2.heap.size := by have := hg8.size; omega
   have MF2 : MadeFs w0 (.slice a l.length ca) l w2 (.slice a2 L2.length c2) L2 := by
     have h7 := hown7.kept hg8 (own_not hown7 (by omega))
     have hE := hownE.kept hg8 (own_not hownE (by omega))
     have hK : Kept w0.heap.size w1 w2 := (Kept.of_below k7).trans (Kept.grown hg8 hF0)
     intro W hkW hvW
     have hEW := own_ents (own_kept hE hkW (by omega))
     refine own_nds (own_kept h7 hkW (by omega)) fun z hz => ?_
     rcases HM.out z hz with rfl | h
     · exact hEW
     · exact (MF1 W (hK.trans hkW) hvW).all z h
   clear HM hown7 hownE k7 bF7 bA7 bB7 bR7 hB7 MF1 bF1 bA1 bB1 bR1 hB1 hz5 hz7 hg8 hDl hRx hoB hsoK helK
   generalize x5w.heap.size = T7 at *
   have NV2 := MF2 _ (Kept.refl _ _) (HV.out.below hB2)
   have hG := refGetT_any mi mb nx bd L2 _ _ NV2
   have hEG := get_ents NV2.all bd
   obtain ⟨ag, ng, cg, hgs⟩ := get_slice NV2 bd
   have hq := HP2.out
   generalize getN L2 bd = G at *
   generalize hasN L2 bd = hs2 at *
   obtain ⟨gi, gk, gl, gd, gp, ge, gn⟩ := G
   dsimp only at hgs hEG hq
   subst hgs
   obtain ⟨hsoK, helK, hq⟩ := hq
   have HQ2 := Lib.hid hq
   clear hq HP2
   obtain ⟨⟨p0, p1, p2, p3⟩, _⟩ := bF2.four
   obtain ⟨⟨s0, s1, s2⟩, _⟩ := bA2.three
   obtain ⟨⟨t0, t1, t2⟩, _⟩ := bB2.three
   dsimp only at s0 s1 s2 t0 t1 t2
   go_wp2_with fail
   refine hG.mono ?_
   rintro e x1 ⟨rfl, b1⟩
   clear hG p0 p1 p2 p3 s0 s1 s2 t0 t1 t2
   have k1 := b1.trans ((alloc_below x1 (.cells (ndC ⟨gi, gk, gl, gd, gp, .slice ag ng cg, gn⟩) 49)).mono b1.size)
   have bD := Blk.new x1 49 (ndC ⟨gi, gk, gl, gd, gp, .slice ag ng cg, gn⟩)
   have hDl : w2.heap.size ≤ x1.heap.size := b1.size
   have hRx : w.heap.size + 1 + 1 + 1 < x1.heap.size := (bR2.next b1).lt
   have bFx := bF2.next k1
   have bAx := bA2.next k1
   have bBx := bB2.next k1
   have bRx := bR2.next k1
   replace hEG := hEG.below k1
   clear b1
   obtain ⟨⟨s0, s1, s2⟩, _⟩ := bAx.three
   obtain ⟨⟨t0, t1, t2⟩, _⟩ := bBx.three
   obtain ⟨⟨x0, x1', x2, x3, x4, x5⟩, _⟩ := bD.six
   dsimp only at s0 s1 s2 t0 t1 t2 x0 x1' x2 x3 x4 x5
   have hWi := refWith_any gn bn_ ai_ _ _ hEG hsoK (by omega)
   go_wp2_with fail
   refine hWi.mono ?_
   rintro e x3w ⟨vn, rfl, hown, b3⟩
   clear hWi s0 s1 s2 t0 t1 t2 x0 x1' x2 x3 x4 x5 hEG
   obtain ⟨an, cn, rfl⟩ := own_slice hown
   have hoB : x1.heap.size < (x1.alloc (.cells (ndC ⟨gi, gk, gl, gd, gp, .slice ag ng cg, gn⟩) 49)).heap.size := by simp
   replace k1 := k1.trans (b3.mono k1.size)
   replace bFx := bFx.next b3
   replace bAx := bAx.next b3
   replace bBx := bBx.next b3
   replace bRx := bRx.next b3
   replace bD := bD.next b3
   clear b3
   generalize withB gn bn_ ai_ = m at *
   obtain ⟨⟨x0, x1', x2, x3, x4, x5⟩, f0, f1, f2, f3, f4, f5⟩ := bD.six
   dsimp only at x0 x1' x2 x3 x4 x5
   have bD5 := bD.set 5 (.slice an m.length cn)
   rw [nd_set5 gi gk gl gd gp (.slice ag ng cg) (.slice an m.length cn) gn m] at bD5
   have bF5 := bFx.other (B2 := x1.heap.size) (i := 5) (by omega) (.slice an m.length cn)
   have bA5 := bAx.other (B2 := x1.heap.size) (i := 5) (by omega) (.slice an m.length cn)
   have bB5 := bBx.other (B2 := x1.heap.size) (i := 5) (by omega) (.slice an m.length cn)
   have bR5 := bRx.other (B2 := x1.heap.size) (i := 5) (by omega) (.slice an m.length cn)
   have k5 := k1.setCell (p := ⟨x1.heap.size, 5, none⟩) hDl (.slice an m.length cn)
   generalize (x1.alloc (.cells (ndC ⟨gi, gk, gl, gd, gp, .slice ag ng cg, gn⟩) 49)).heap.size = NB at *
   have hown5 := World.ownsRow.kept hown (grownBy_set x3w x1.heap.size 5 (.slice an m.length cn)) (own_not hown (by omega))
   generalize hw5 : World.setCell x3w ⟨x1.heap.size, 5, none⟩ (.slice an m.length cn) = x5w at *
   clear bFx bAx bBx bRx bD k1 hown
   generalize x1.heap.size = BD at *
   have hB5 := hB2.trans (k5.mono hB2.size)
   obtain ⟨⟨p0, p1, p2, p3⟩, _⟩ := bF5.four
   obtain ⟨⟨d0, d1, d2, d3, d4, d5⟩, _⟩ := bD5.six
   dsimp only at d0 d1 d2 d3 d4 d5
   have NV5 := MF2 _ (Kept.of_below k5) (HV.out.below hB5)
   have hS := refSetT_any mi mb nx L2 ⟨gi, gk, gl, gd, gp, .slice an m.length cn, m⟩ _ _ NV5 (own_ents hown5) hr2 (by omega)
   have hr3 : riseP (setN L2 ⟨gi, gk, gl, gd, gp, .slice an m.length cn, m⟩) := set_rise _ hr2
   have hl3 := setN_len L2 ⟨gi, gk, gl, gd, gp, .slice an m.length cn, m⟩
   have HM := Lib.hid (show ∀ z ∈ setN L2 ⟨gi, gk, gl, gd, gp, .slice an m.length cn, m⟩, z = ⟨gi, gk, gl, gd, gp, .slice an m.length cn, m⟩ ∨ z ∈ L2 from fun z hz => mem_setN hz)
   have HP3 := Lib.hid (HQ2.out (.slice an m.length cn))
   clear HQ2 NV5 NV2
   generalize setN L2 ⟨gi, gk, gl, gd, gp, .slice an m.length cn, m⟩ = L3 at *
   go_wp2_with fail
   refine hS.mono ?_
   rintro e x7 ⟨v7, rfl, hnew⟩
   obtain ⟨a3, c3, rfl⟩ := own_slice hnew.1
   have b7 := hnew.2
   have hown7 := hnew.1
   have k7 := k5.trans (b7.mono k5.size)
   have bF7 := bF5.next b7
   have bA7 := bA5.next b7
   have bB7 := bB5.next b7
   have bR7 := bR5.next b7
   have hownE := own_keep hown5 b7
   have hz5 : w2.heap.size ≤ x5w.heap.size := k5.size
   have hB7 := hB5.trans (b7.mono hB5.size)
   have hz7 := b7.size
   clear hS hnew b7 p0 p1 p2 p3 d0 d1 d2 d3 d4 d5 x0 x1' x2 x3 x4 x5 bF5 bR5 bA5 bB5 bD5 hB5 hown5 f0 f1 f2 f3 f4 f5 k5
   obtain ⟨_, f0, f1, f2, f3⟩ := bF7.four
   obtain ⟨w3, hw3, bF3, hg8⟩ := bF7.put4 (.int .i64 mi) (.int .i64 mb) (.int .i64 nx) (.slice a3 L3.length c3)
   have bR3 := bR7.kept hg8 (by simp; omega)
   have bA3 := bA7.kept hg8 (by simp)
   have bB3 := bB7.kept hg8 (by simp; omega)
   have hB3 := below_grown hB7 hg8 (Nat.le_refl _) (Nat.le_refl _)
   have hsz3 : w0.heap.size ≤ w3.heap.size := by have := hg8.size; omega
   have MF3 : MadeFs w0 (.slice a l.length ca) l w3 (.slice a3 L3.length c3) L3 := by
     have h7 := hown7.kept hg8 (own_not hown7 (by omega))
     have hE := hownE.kept hg8 (own_not hownE (by omega))
     have hK : Kept w0.heap.size w2 w3 := (Kept.of_below k7).trans (Kept.grown hg8 hF0)
     intro W hkW hvW
     have hEW := own_ents (own_kept hE hkW (by omega))
     refine own_nds (own_kept h7 hkW (by omega)) fun z hz => ?_
     rcases HM.out z hz with rfl | h
     · exact hEW
     · exact (MF2 W (hK.trans hkW) hvW).all z h
   clear HM hown7 hownE k7 bF7 bA7 bB7 bR7 hB7 MF2 bF2 bA2 bB2 bR2 hB2 hz5 hz7 hg8 hDl hRx hoB hsoK helK
   generalize x5w.heap.size = T7 at *
   obtain ⟨f1, f2, hmv⟩ := HP3.out
   have NV3 := MF3 _ (Kept.refl _ _) (HV.out.below hB3)
   have hG := refGetT_any mi mb nx ai_ L3 _ _ NV3
   have HEX := Lib.hid (fun W (h : EntsAll W L3) => get_ents h ai_)
   obtain ⟨ax, nxx, cx, hxs⟩ := get_slice NV3 ai_
   clear HP3
   generalize getN L3 ai_ = X at *
   generalize hasN L3 ai_ = hs9 at *
   obtain ⟨xi, xk, xl, xd, xp, xe, xn⟩ := X
   dsimp only at hxs hmv
   subst hxs
   have HMV := Lib.hid hmv
   clear hmv
   obtain ⟨⟨p0, p1, p2, p3⟩, _⟩ := bF3.four
   obtain ⟨⟨s0, s1, s2⟩, _⟩ := bA3.three
   dsimp only at s0 s1 s2
   go_wp2_with fail
   refine hG.mono ?_
   rintro e x1 ⟨rfl, b1⟩
   clear hG p0 p1 p2 p3 s0 s1 s2
   have k1 := b1.trans ((alloc_below x1 (.cells (ndC ⟨xi, xk, xl, xd, xp, .slice ax nxx cx, xn⟩) 49)).mono b1.size)
   have bX := Blk.new x1 49 (ndC ⟨xi, xk, xl, xd, xp, .slice ax nxx cx, xn⟩)
   have hDl : w3.heap.size ≤ x1.heap.size := b1.size
   have hRx : w.heap.size + 1 + 1 + 1 < x1.heap.size := (bR3.next b1).lt
   have bFx := bF3.next k1
   have bBx := bB3.next k1
   have bRx := bR3.next k1
   have hBx := hB3.trans (k1.mono hB3.size)
   clear b1
   have hsz0 : w.heap.size ≤ w0.heap.size := by omega
   obtain ⟨⟨x0, x1', x2, x3, x4, x5⟩, f0, f1', f2', f3, f4, f5⟩ := bX.six
   dsimp only at x0 x1' x2 x3 x4 x5
   go_upto_if 62 with (fail)
   generalize hx2 : x1.alloc (.cells (ndC ⟨xi, xk, xl, xd, xp, .slice ax nxx cx, xn⟩) 49) = x2w at *
   clear hx2
   by_cases hk : xk = 2
   case neg =>
     have h2 := HMV.out
     rw [if_neg hk] at h2
     have HN := Lib.hid h2
     clear HMV h2
     obtain ⟨⟨p0, p1, p2, p3⟩, _⟩ := bFx.four
     obtain ⟨⟨r0, r1, r2, r3⟩, e0, e1, e2, e3⟩ := bRx.four
     obtain ⟨W', hW', hb4, hg4⟩ := bRx.put4 (.int .i64 mi) (.int .i64 mb) (.int .i64 nx) (.slice a3 L3.length c3)
     have hbl := below_grown hBx hg4 (Nat.le_refl _) (by omega)
     have hM := MF3.up (w := w) (w' := W') hsz0 ((Kept.of_below k1).trans (Kept.grown hg4 hRl))
     go_wp2
     obtain ⟨⟨y0, y1, y2, y3⟩, _⟩ := hb4.four
     refine bodyPost_ret (v := .agg (fsC mi mb nx (.slice a3 L3.length c3))) (by simp [results, Tryz.f62, go_sem, y0, y1, y2, y3]) rfl ?_
     exact ⟨_, ev, f1, f2, rfl, by rw [HLL.out, HN.out]; exact hM, hbl⟩
   have h2 := HMV.out
   rw [if_pos hk] at h2
   subst hk
   have HN0 := Lib.hid h2
   clear HMV h2
   have bX5 := bX.set 4 (.int .i64 bd)
   rw [nd_set4] at bX5
   have bF5 := bFx.other (B2 := x1.heap.size) (i := 4) (by omega) (.int .i64 bd)
   have bR5 := bRx.other (B2 := x1.heap.size) (i := 4) (by omega) (.int .i64 bd)
   have k5 := k1.setCell (p := ⟨x1.heap.size, 4, none⟩) hDl (.int .i64 bd)
   obtain ⟨⟨t0, t1, t2⟩, _⟩ := bBx.three
   dsimp only at t0 t1 t2
   generalize hw5 : World.setCell x2w ⟨x1.heap.size, 4, none⟩ (.int .i64 bd) = x5w at *
   clear bFx bBx bRx bX k1 hBx
   have hB5 := hB3.trans (k5.mono hB3.size)
   obtain ⟨⟨p0, p1, p2, p3⟩, _⟩ := bF5.four
   obtain ⟨⟨d0, d1, d2, d3, d4, d5⟩, _⟩ := bX5.six
   dsimp only at d0 d1 d2 d3 d4 d5
   have NV5 := MF3 _ (Kept.of_below k5) (HV.out.below hB5)
   have hS := refSetT_any mi mb nx L3 ⟨xi, 2, xl, xd, bd, .slice ax nxx cx, xn⟩ _ _ NV5 (HEX.out _ NV5.all) hr3 (by omega)
   have HM := Lib.hid (show ∀ z ∈ setN L3 ⟨xi, 2, xl, xd, bd, .slice ax nxx cx, xn⟩, z = ⟨xi, 2, xl, xd, bd, .slice ax nxx cx, xn⟩ ∨ z ∈ L3 from fun z hz => mem_setN hz)
   clear NV5 NV3
   generalize setN L3 ⟨xi, 2, xl, xd, bd, .slice ax nxx cx, xn⟩ = L4 at *
   go_wp2_with fail
   refine hS.mono ?_
   rintro e x7 ⟨v7, rfl, hnew⟩
   obtain ⟨a4, c4, rfl⟩ := own_slice hnew.1
   have b7 := hnew.2
   have hown7 := hnew.1
   have k7 := k5.trans (b7.mono k5.size)
   have bF7 := bF5.next b7
   have bR7 := bR5.next b7
   have hz5 : w3.heap.size ≤ x5w.heap.size := k5.size
   have hB7 := hB5.trans (b7.mono hB5.size)
   clear hS hnew b7 p0 p1 p2 p3 d0 d1 d2 d3 d4 d5 x0 x1' x2 x3 x4 x5 t0 t1 t2 bF5 bR5 bX5 hB5 f0 f1' f2' f3 f4 f5 k5
   obtain ⟨_, f0, f1', f2', f3⟩ := bF7.four
   obtain ⟨w4, hw4, bF4, hg8⟩ := bF7.put4 (.int .i64 mi) (.int .i64 mb) (.int .i64 nx) (.slice a4 L4.length c4)
   have bR4 := bR7.kept hg8 (by simp; omega)
   have hB4 := below_grown hB7 hg8 (Nat.le_refl _) (Nat.le_refl _)
   have MF4 : MadeFs w0 (.slice a l.length ca) l w4 (.slice a4 L4.length c4) L4 := by
     have h7 := hown7.kept hg8 (own_not hown7 (by omega))
     have hK : Kept w0.heap.size w3 w4 := (Kept.of_below k7).trans (Kept.grown hg8 hF0)
     intro W hkW hvW
     have hAll := (MF3 W (hK.trans hkW) hvW).all
     refine own_nds (own_kept h7 hkW (by omega)) fun z hz => ?_
     rcases HM.out z hz with rfl | h
     · exact HEX.out W hAll
     · exact hAll z h
   clear HM hown7 k7 bF7 bR7 hB7 hg8
   obtain ⟨⟨p0, p1, p2, p3⟩, _⟩ := bF4.four
   obtain ⟨⟨r0, r1, r2, r3⟩, e0, e1, e2, e3⟩ := bR4.four
   obtain ⟨W', hW', hb4, hg4⟩ := bR4.put4 (.int .i64 mi) (.int .i64 mb) (.int .i64 nx) (.slice a4 L4.length c4)
   have hbl := below_grown hB4 hg4 (Nat.le_refl _) (by omega)
   have hM := MF4.up (w := w) (w' := W') hsz0 (Kept.grown hg4 hRl)
   go_wp2
   obtain ⟨⟨y0, y1, y2, y3⟩, _⟩ := hb4.four
   refine bodyPost_ret (v := .agg (fsC mi mb nx (.slice a4 L4.length c4))) (by simp [results, Tryz.f62, go_sem, y0, y1, y2, y3]) rfl ?_
   exact ⟨_, ev, f1, f2, rfl, by rw [HLL.out, HN0.out]; exact hM, hbl⟩
set_option maxHeartbeats 8000000 in
set_option maxRecDepth 100000 in
theorem refUnlink_any (mi mb nx : Int) (l : List Nd) (base p : List UInt8) (v : Value) (w : World) (hv : Nds w v l) (hf : Fit l) (hb : base.length ≤ 100000) (hp : p.length ≤ 100000) (hln : ∀ i, 0 ≤ (getN l i).links ∧ (getN l i).links ≤ 1000000) :
    Calls Tryz.prog 31 #[.agg (fsC mi mb nx v), .string ⟨base.toArray⟩, .string ⟨p.toArray⟩] w fun e w' => ∃ y ev, e = .returned (.tuple #[.agg (fsC mi mb nx y), .int .i64 (unlinkF l base p ev).2]) ∧ MadeFs w v l w' y (unlinkF l base p ev).1 ∧ Below w.heap.size w w' := by
  obtain ⟨a, ca, rfl⟩ := nds_slice hv
  have bF := (Blk.new w 28 (fsC mi mb nx (.slice a l.length ca))).alloc (.cells (fsC 0 0 0 (.slice none 0 0)) 28)
  have bR := Blk.new (w.alloc (.cells (fsC mi mb nx (.slice a l.length ca)) 28)) 28 (fsC 0 0 0 (.slice none 0 0))
  have hB := ((Below.refl w.heap.size w).alloc (Nat.le_refl _) (.cells (fsC mi mb nx (.slice a l.length ca)) 28)).alloc (by simp) (.cells (fsC 0 0 0 (.slice none 0 0)) 28)
  simp only [World.size_alloc] at bR
  have HV := Lib.hid hv
  have hda : ∀ i, (getN l i).data.length ≤ 5000 := fun i => (calm_get hf.calm i).2.2.1
  have hSk := refSeek_any mi mb nx l base p false _ _ (hv.below hB) hda hb hp
  have hF : ∀ ev, unlinkF l base p ev = unlinkF l base p ev := fun _ => rfl
  conv at hF => enter [ev]; rhs; unfold unlinkF
  have hUn := fun w' (h : Nds w' (.slice a l.length ca) l) => refUnname_any mi mb nx l (seekP l base p false).1 _ w' h hf.calm.rise ((rightB_iff _).1 (calm_get hf.calm _).1).2 (calm_get hf.calm _).2.1 hf.calm.len (by have := hln (seekP l base p false).1.ino; omega)
  have hGX := fun w' (h : Nds w' (.slice a l.length ca) l) => refGetT_any mi mb nx (seekP l base p false).1.ino l _ w' h
  have hEX := (calm_get hf.calm (seekP l base p false).1.ino).2.1
  have hxs := get_slice hv (seekP l base p false).1.ino
  have hEG := fun W (h : EntsAll W l) => get_ents h (seekP l base p false).1.ino
  generalize seekP l base p false = Q at *
  obtain ⟨⟨qa, qb, qc⟩, qe⟩ := Q
  dsimp only at hF hSk hUn hGX hEX hxs hEG
  have HF := Lib.hid hF
  clear hF hv hda hln
  obtain ⟨⟨p0, p1, p2, p3⟩, _⟩ := bF.four
  go_enter Tryz.func31, Tryz.ntmps31
  go_wp2_with fail
  refine hSk.mono ?_
  rintro e w1 ⟨rfl, b1⟩
  clear hSk p0 p1 p2 p3
  have b2 := b1.trans ((alloc_below w1 (.cells (spC ⟨qa, qb, qc⟩) 81)).mono b1.size)
  have bS := Blk.new w1 81 (spC ⟨qa, qb, qc⟩)
  replace bF := bF.next b2
  replace bR := bR.next b2
  replace hB := hB.trans (b2.mono hB.size)
  clear b1 b2
  obtain ⟨⟨p0, p1, p2, p3⟩, _⟩ := bF.four
  obtain ⟨⟨s0, s1, s2⟩, _⟩ := bS.three
  dsimp only at s0 s1 s2
  by_cases he : qe = 0
  case neg =>
    have HN : Hid (∀ ev, unlinkF l base p ev = (l, qe)) := fun ev => by rw [HF.out ev, if_pos he]
    clear HF hUn hGX hEX hxs hEG
    obtain ⟨⟨r0, r1, r2, r3⟩, e0, e1, e2, e3⟩ := bR.four
    obtain ⟨W', hW', hb4, hg4⟩ := bR.put4 (.int .i64 mi) (.int .i64 mb) (.int .i64 nx) (.slice a l.length ca)
    have hbl := below_grown hB hg4 (Nat.le_refl _) (by omega)
    go_wp2
    obtain ⟨⟨y0, y1, y2, y3⟩, _⟩ := hb4.four
    refine bodyPost_ret (v := .tuple #[.agg (fsC mi mb nx (.slice a l.length ca)), .int .i64 qe]) (by simp [results, Tryz.f31, go_sem, y0, y1, y2, y3]) rfl ?_
    exact ⟨_, .slice none 0 0, by rw [HN.out], by rw [HN.out]; exact MadeFs.same _ _ _ _, hbl⟩
  subst he
  by_cases hc : qc = 0
  case pos =>
    have HN : Hid (∀ ev, unlinkF l base p ev = (l, 1)) := fun ev => by rw [HF.out ev, if_neg (by simp), if_pos hc]
    clear HF hUn hGX hEX hxs hEG
    subst hc
    obtain ⟨⟨r0, r1, r2, r3⟩, e0, e1, e2, e3⟩ := bR.four
    obtain ⟨W', hW', hb4, hg4⟩ := bR.put4 (.int .i64 mi) (.int .i64 mb) (.int .i64 nx) (.slice a l.length ca)
    have hbl := below_grown hB hg4 (Nat.le_refl _) (by omega)
    go_wp2
    obtain ⟨⟨y0, y1, y2, y3⟩, _⟩ := hb4.four
    refine bodyPost_ret (v := .tuple #[.agg (fsC mi mb nx (.slice a l.length ca)), .int .i64 1]) (by simp [results, Tryz.f31, go_sem, y0, y1, y2, y3]) rfl ?_
    exact ⟨_, .slice none 0 0, by rw [HN.out], by rw [HN.out]; exact MadeFs.same _ _ _ _, hbl⟩
  replace HF : Hid _ := fun ev => by have := HF.out ev; rw [if_neg (by simp), if_neg hc] at this; exact this
  have hG := hGX _ (HV.out.below hB)
  clear hGX
  generalize getN l qc = X at *
  generalize hasN l qc = hs1 at *
  obtain ⟨xi, xk, xl, xd, xp, xe, xn⟩ := X
  dsimp only at hxs hEX HF hEG
  obtain ⟨ax, nxx, cx, rfl⟩ := hxs
  have HEG := Lib.hid hEG
  clear hEG
  go_wp2_with fail
  refine hG.mono ?_
  rintro e w2 ⟨rfl, b1⟩
  clear hG p0 p1 p2 p3 s0 s1 s2
  have b2 := b1.trans ((alloc_below w2 (.cells (ndC ⟨xi, xk, xl, xd, xp, .slice ax nxx cx, xn⟩) 49)).mono b1.size)
  have bX := Blk.new w2 49 (ndC ⟨xi, xk, xl, xd, xp, .slice ax nxx cx, xn⟩)
  replace bF := bF.next b2
  replace bS := bS.next b2
  replace bR := bR.next b2
  replace hB := hB.trans (b2.mono hB.size)
  clear b1 b2
  have hxn : nxx = xn.length := by
    obtain ⟨a2, c2, e2, _⟩ := HEG.out _ (HV.out.below hB).all
    simp only [Value.slice.injEq] at e2
    exact e2.2.1
  subst hxn
  obtain ⟨⟨p0, p1, p2, p3⟩, _⟩ := bF.four
  obtain ⟨⟨s0, s1, s2⟩, _⟩ := bS.three
  obtain ⟨⟨x0, x1, x2, x3, x4, x5⟩, _⟩ := bX.six
  dsimp only at s0 s1 s2 x0 x1 x2 x3 x4 x5
  by_cases hk : xk = 2
  case pos =>
    have HN : Hid (∀ ev, unlinkF l base p ev = (l, 4)) := fun ev => by rw [HF.out ev, if_pos hk]
    clear HF hUn
    subst hk
    obtain ⟨⟨r0, r1, r2, r3⟩, e0, e1, e2, e3⟩ := bR.four
    obtain ⟨W', hW', hb4, hg4⟩ := bR.put4 (.int .i64 mi) (.int .i64 mb) (.int .i64 nx) (.slice a l.length ca)
    have hbl := below_grown hB hg4 (Nat.le_refl _) (by omega)
    go_wp2
    obtain ⟨⟨y0, y1, y2, y3⟩, _⟩ := hb4.four
    refine bodyPost_ret (v := .tuple #[.agg (fsC mi mb nx (.slice a l.length ca)), .int .i64 4]) (by simp [results, Tryz.f31, go_sem, y0, y1, y2, y3]) rfl ?_
    exact ⟨_, .slice none 0 0, by rw [HN.out], by rw [HN.out]; exact MadeFs.same _ _ _ _, hbl⟩
  replace HF : Hid _ := fun ev => by have := HF.out ev; rw [if_neg hk] at this; exact this
  go_wp2_with fail
  refine (hUn _ (HV.out.below hB)).mono ?_
  rintro e w3 ⟨y, ev, rfl, hN, b3⟩
  obtain ⟨ay, cy, rfl⟩ := nds_slice (hN.now (HV.out.below hB) b3)
  have HN := Lib.hid (HF.out ev)
  generalize unL l qa qb qc ev = Z at *
  have hRl := bR.lt
  have hsz := hB.size
  clear hUn HF p0 p1 p2 p3 s0 s1 s2 x0 x1 x2 x3 x4 x5
  have bR3 := bR.next b3
  have hB3 := hB.trans (b3.mono hB.size)
  obtain ⟨⟨r0, r1, r2, r3⟩, e0, e1, e2, e3⟩ := bR3.four
  obtain ⟨W', hW', hb4, hg4⟩ := bR3.put4 (.int .i64 mi) (.int .i64 mb) (.int .i64 nx) (.slice ay Z.length cy)
  have hbl := below_grown hB3 hg4 (Nat.le_refl _) (by omega)
  have hM := hN.up (w := w) (w' := W') hsz (Kept.grown hg4 hRl)
  go_wp2
  obtain ⟨⟨y0, y1, y2, y3⟩, _⟩ := hb4.four
  refine bodyPost_ret (v := .tuple #[.agg (fsC mi mb nx (.slice ay Z.length cy)), .int .i64 0]) (by simp [results, Tryz.f31, go_sem, y0, y1, y2, y3]) rfl ?_
  exact ⟨_, ev, by rw [HN.out], by rw [HN.out]; exact hM, hbl⟩
set_option maxHeartbeats 8000000 in
set_option maxRecDepth 100000 in
theorem refRmdir_any (mi mb nx : Int) (l : List Nd) (base p : List UInt8) (v : Value) (w : World) (hv : Nds w v l) (hf : Fit l) (hb : base.length ≤ 100000) (hp : p.length ≤ 100000) (hln : ∀ i, 0 ≤ (getN l i).links ∧ (getN l i).links ≤ 1000000) :
    Calls Tryz.prog 32 #[.agg (fsC mi mb nx v), .string ⟨base.toArray⟩, .string ⟨p.toArray⟩] w fun e w' => ∃ y ev, e = .returned (.tuple #[.agg (fsC mi mb nx y), .int .i64 (rmdirF l base p ev).2]) ∧ MadeFs w v l w' y (rmdirF l base p ev).1 ∧ Below w.heap.size w w' := by
  obtain ⟨a, ca, rfl⟩ := nds_slice hv
  have bF := (Blk.new w 28 (fsC mi mb nx (.slice a l.length ca))).alloc (.cells (fsC 0 0 0 (.slice none 0 0)) 28)
  have bR := Blk.new (w.alloc (.cells (fsC mi mb nx (.slice a l.length ca)) 28)) 28 (fsC 0 0 0 (.slice none 0 0))
  have hB := ((Below.refl w.heap.size w).alloc (Nat.le_refl _) (.cells (fsC mi mb nx (.slice a l.length ca)) 28)).alloc (by simp) (.cells (fsC 0 0 0 (.slice none 0 0)) 28)
  simp only [World.size_alloc] at bR
  have HV := Lib.hid hv
  have hda : ∀ i, (getN l i).data.length ≤ 5000 := fun i => (calm_get hf.calm i).2.2.1
  have hSk := refSeek_any mi mb nx l base p false _ _ (hv.below hB) hda hb hp
  have hF : ∀ ev, rmdirF l base p ev = rmdirF l base p ev := fun _ => rfl
  conv at hF => enter [ev]; rhs; unfold rmdirF
  have hUn := fun w' (h : Nds w' (.slice a l.length ca) l) => refUnname_any mi mb nx l (seekP l base p false).1 _ w' h hf.calm.rise ((rightB_iff _).1 (calm_get hf.calm _).1).2 (calm_get hf.calm _).2.1 hf.calm.len (by have := hln (seekP l base p false).1.ino; omega)
  have hGX := fun w' (h : Nds w' (.slice a l.length ca) l) => refGetT_any mi mb nx (seekP l base p false).1.ino l _ w' h
  have hEX := (calm_get hf.calm (seekP l base p false).1.ino).2.1
  have hxs := get_slice hv (seekP l base p false).1.ino
  have hEG := fun W (h : EntsAll W l) => get_ents h (seekP l base p false).1.ino
  generalize seekP l base p false = Q at *
  obtain ⟨⟨qa, qb, qc⟩, qe⟩ := Q
  dsimp only at hF hSk hUn hGX hEX hxs hEG
  have HF := Lib.hid hF
  clear hF hv hda hln
  obtain ⟨⟨p0, p1, p2, p3⟩, _⟩ := bF.four
  go_enter Tryz.func32, Tryz.ntmps32
  go_wp2_with fail
  refine hSk.mono ?_
  rintro e w1 ⟨rfl, b1⟩
  clear hSk p0 p1 p2 p3
  have b2 := b1.trans ((alloc_below w1 (.cells (spC ⟨qa, qb, qc⟩) 81)).mono b1.size)
  have bS := Blk.new w1 81 (spC ⟨qa, qb, qc⟩)
  replace bF := bF.next b2
  replace bR := bR.next b2
  replace hB := hB.trans (b2.mono hB.size)
  clear b1 b2
  obtain ⟨⟨p0, p1, p2, p3⟩, _⟩ := bF.four
  obtain ⟨⟨s0, s1, s2⟩, _⟩ := bS.three
  dsimp only at s0 s1 s2
  by_cases he : qe = 0
  case neg =>
    have HN : Hid (∀ ev, rmdirF l base p ev = (l, qe)) := fun ev => by rw [HF.out ev, if_pos he]
    clear HF hUn hGX hEX hxs hEG
    obtain ⟨⟨r0, r1, r2, r3⟩, e0, e1, e2, e3⟩ := bR.four
    obtain ⟨W', hW', hb4, hg4⟩ := bR.put4 (.int .i64 mi) (.int .i64 mb) (.int .i64 nx) (.slice a l.length ca)
    have hbl := below_grown hB hg4 (Nat.le_refl _) (by omega)
    go_wp2
    obtain ⟨⟨y0, y1, y2, y3⟩, _⟩ := hb4.four
    refine bodyPost_ret (v := .tuple #[.agg (fsC mi mb nx (.slice a l.length ca)), .int .i64 qe]) (by simp [results, Tryz.f32, go_sem, y0, y1, y2, y3]) rfl ?_
    exact ⟨_, .slice none 0 0, by rw [HN.out], by rw [HN.out]; exact MadeFs.same _ _ _ _, hbl⟩
  subst he
  by_cases hc : qc = 0
  case pos =>
    have HN : Hid (∀ ev, rmdirF l base p ev = (l, 1)) := fun ev => by rw [HF.out ev, if_neg (by simp), if_pos hc]
    clear HF hUn hGX hEX hxs hEG
    subst hc
    obtain ⟨⟨r0, r1, r2, r3⟩, e0, e1, e2, e3⟩ := bR.four
    obtain ⟨W', hW', hb4, hg4⟩ := bR.put4 (.int .i64 mi) (.int .i64 mb) (.int .i64 nx) (.slice a l.length ca)
    have hbl := below_grown hB hg4 (Nat.le_refl _) (by omega)
    go_wp2
    obtain ⟨⟨y0, y1, y2, y3⟩, _⟩ := hb4.four
    refine bodyPost_ret (v := .tuple #[.agg (fsC mi mb nx (.slice a l.length ca)), .int .i64 1]) (by simp [results, Tryz.f32, go_sem, y0, y1, y2, y3]) rfl ?_
    exact ⟨_, .slice none 0 0, by rw [HN.out], by rw [HN.out]; exact MadeFs.same _ _ _ _, hbl⟩
  replace HF : Hid _ := fun ev => by have := HF.out ev; rw [if_neg (by simp), if_neg hc] at this; exact this
  have hG := hGX _ (HV.out.below hB)
  clear hGX
  generalize getN l qc = X at *
  generalize hasN l qc = hs1 at *
  obtain ⟨xi, xk, xl, xd, xp, xe, xn⟩ := X
  dsimp only at hxs hEX HF hEG
  obtain ⟨ax, nxx, cx, rfl⟩ := hxs
  have HEG := Lib.hid hEG
  clear hEG
  go_wp2_with fail
  refine hG.mono ?_
  rintro e w2 ⟨rfl, b1⟩
  clear hG p0 p1 p2 p3 s0 s1 s2
  have b2 := b1.trans ((alloc_below w2 (.cells (ndC ⟨xi, xk, xl, xd, xp, .slice ax nxx cx, xn⟩) 49)).mono b1.size)
  have bX := Blk.new w2 49 (ndC ⟨xi, xk, xl, xd, xp, .slice ax nxx cx, xn⟩)
  replace bF := bF.next b2
  replace bS := bS.next b2
  replace bR := bR.next b2
  replace hB := hB.trans (b2.mono hB.size)
  clear b1 b2
  have hxn : nxx = xn.length := by
    obtain ⟨a2, c2, e2, _⟩ := HEG.out _ (HV.out.below hB).all
    simp only [Value.slice.injEq] at e2
    exact e2.2.1
  subst hxn
  obtain ⟨⟨p0, p1, p2, p3⟩, _⟩ := bF.four
  obtain ⟨⟨s0, s1, s2⟩, _⟩ := bS.three
  obtain ⟨⟨x0, x1, x2, x3, x4, x5⟩, _⟩ := bX.six
  dsimp only at s0 s1 s2 x0 x1 x2 x3 x4 x5
  by_cases hk : xk ≠ 2
  case pos =>
    have HN : Hid (∀ ev, rmdirF l base p ev = (l, 3)) := fun ev => by rw [HF.out ev, if_pos hk]
    clear HF hUn
    obtain ⟨⟨r0, r1, r2, r3⟩, e0, e1, e2, e3⟩ := bR.four
    obtain ⟨W', hW', hb4, hg4⟩ := bR.put4 (.int .i64 mi) (.int .i64 mb) (.int .i64 nx) (.slice a l.length ca)
    have hbl := below_grown hB hg4 (Nat.le_refl _) (by omega)
    go_wp2
    obtain ⟨⟨y0, y1, y2, y3⟩, _⟩ := hb4.four
    refine bodyPost_ret (v := .tuple #[.agg (fsC mi mb nx (.slice a l.length ca)), .int .i64 3]) (by simp [results, Tryz.f32, go_sem, y0, y1, y2, y3]) rfl ?_
    exact ⟨_, .slice none 0 0, by rw [HN.out], by rw [HN.out]; exact MadeFs.same _ _ _ _, hbl⟩
  replace HF : Hid _ := fun ev => by have := HF.out ev; rw [if_neg hk] at this; exact this
  have hk2 : xk = 2 := by omega
  clear hk
  subst hk2
  by_cases hk1 : xi = 1
  case pos =>
    have HN : Hid (∀ ev, rmdirF l base p ev = (l, 10)) := fun ev => by rw [HF.out ev, if_pos hk1]
    clear HF hUn
    subst hk1
    obtain ⟨⟨r0, r1, r2, r3⟩, e0, e1, e2, e3⟩ := bR.four
    obtain ⟨W', hW', hb4, hg4⟩ := bR.put4 (.int .i64 mi) (.int .i64 mb) (.int .i64 nx) (.slice a l.length ca)
    have hbl := below_grown hB hg4 (Nat.le_refl _) (by omega)
    go_wp2
    obtain ⟨⟨y0, y1, y2, y3⟩, _⟩ := hb4.four
    refine bodyPost_ret (v := .tuple #[.agg (fsC mi mb nx (.slice a l.length ca)), .int .i64 10]) (by simp [results, Tryz.f32, go_sem, y0, y1, y2, y3]) rfl ?_
    exact ⟨_, .slice none 0 0, by rw [HN.out], by rw [HN.out]; exact MadeFs.same _ _ _ _, hbl⟩
  replace HF : Hid _ := fun ev => by have := HF.out ev; rw [if_neg hk1] at this; exact this
  by_cases hnm : qb = []
  case pos =>
    have HN : Hid (∀ ev, rmdirF l base p ev = (l, 9)) := fun ev => by rw [HF.out ev, if_pos hnm]
    clear HF hUn
    subst hnm
    obtain ⟨⟨r0, r1, r2, r3⟩, e0, e1, e2, e3⟩ := bR.four
    obtain ⟨W', hW', hb4, hg4⟩ := bR.put4 (.int .i64 mi) (.int .i64 mb) (.int .i64 nx) (.slice a l.length ca)
    have hbl := below_grown hB hg4 (Nat.le_refl _) (by omega)
    go_wp2
    obtain ⟨⟨y0, y1, y2, y3⟩, _⟩ := hb4.four
    refine bodyPost_ret (v := .tuple #[.agg (fsC mi mb nx (.slice a l.length ca)), .int .i64 9]) (by simp [results, Tryz.f32, go_sem, y0, y1, y2, y3]) rfl ?_
    exact ⟨_, .slice none 0 0, by rw [HN.out], by rw [HN.out]; exact MadeFs.same _ _ _ _, hbl⟩
  replace HF : Hid _ := fun ev => by have := HF.out ev; rw [if_neg hnm] at this; exact this
  have hnb : (qb == []) = false := by simpa using hnm
  by_cases hen : xn.length > 0
  case pos =>
    have HN : Hid (∀ ev, rmdirF l base p ev = (l, 5)) := fun ev => by rw [HF.out ev, if_pos hen]
    clear HF hUn
    obtain ⟨⟨r0, r1, r2, r3⟩, e0, e1, e2, e3⟩ := bR.four
    obtain ⟨W', hW', hb4, hg4⟩ := bR.put4 (.int .i64 mi) (.int .i64 mb) (.int .i64 nx) (.slice a l.length ca)
    have hbl := below_grown hB hg4 (Nat.le_refl _) (by omega)
    go_wp2
    obtain ⟨⟨y0, y1, y2, y3⟩, _⟩ := hb4.four
    refine bodyPost_ret (v := .tuple #[.agg (fsC mi mb nx (.slice a l.length ca)), .int .i64 5]) (by simp [results, Tryz.f32, go_sem, y0, y1, y2, y3]) rfl ?_
    exact ⟨_, .slice none 0 0, by rw [HN.out], by rw [HN.out]; exact MadeFs.same _ _ _ _, hbl⟩
  replace HF : Hid _ := fun ev => by have := HF.out ev; rw [if_neg hen] at this; exact this
  go_wp2_with fail
  refine (hUn _ (HV.out.below hB)).mono ?_
  rintro e w3 ⟨y, ev, rfl, hN, b3⟩
  obtain ⟨ay, cy, rfl⟩ := nds_slice (hN.now (HV.out.below hB) b3)
  have HN := Lib.hid (HF.out ev)
  generalize unL l qa qb qc ev = Z at *
  have hRl := bR.lt
  have hsz := hB.size
  clear hUn HF p0 p1 p2 p3 s0 s1 s2 x0 x1 x2 x3 x4 x5
  have bR3 := bR.next b3
  have hB3 := hB.trans (b3.mono hB.size)
  obtain ⟨⟨r0, r1, r2, r3⟩, e0, e1, e2, e3⟩ := bR3.four
  obtain ⟨W', hW', hb4, hg4⟩ := bR3.put4 (.int .i64 mi) (.int .i64 mb) (.int .i64 nx) (.slice ay Z.length cy)
  have hbl := below_grown hB3 hg4 (Nat.le_refl _) (by omega)
  have hM := hN.up (w := w) (w' := W') hsz (Kept.grown hg4 hRl)
  go_wp2
  obtain ⟨⟨y0, y1, y2, y3⟩, _⟩ := hb4.four
  refine bodyPost_ret (v := .tuple #[.agg (fsC mi mb nx (.slice ay Z.length cy)), .int .i64 0]) (by simp [results, Tryz.f32, go_sem, y0, y1, y2, y3]) rfl ?_
  exact ⟨_, ev, by rw [HN.out], by rw [HN.out]; exact hM, hbl⟩
set_option maxHeartbeats 4000000 in
theorem refMkdir_any (mi mb nx : Int) (l : List Nd) (base p : List UInt8) (v : Value) (w : World) (hv : Nds w v l) (hf : Fit l) (hb : base.length ≤ 100000) (hp : p.length ≤ 100000) (hsn : (seekP l base p false).1.name.length ≤ 100000) (hnx : -4611686018427387904 ≤ nx ∧ nx ≤ 4611686018427387904) :
    Calls Tryz.prog 26 #[.agg (fsC mi mb nx v), .string ⟨base.toArray⟩, .string ⟨p.toArray⟩] w fun e w' => ∃ y ev, e = .returned (.tuple #[.agg (fsC mi mb (putF mi mb nx l base p 2 [] 0 ev).1.1 y), .int .i64 (putF mi mb nx l base p 2 [] 0 ev).2]) ∧ MadeFs w v l w' y (putF mi mb nx l base p 2 [] 0 ev).1.2 ∧ Below w.heap.size w w' := by
  obtain ⟨a, ca, rfl⟩ := nds_slice hv
  have bF := (Blk.new w 28 (fsC mi mb nx (.slice a l.length ca))).alloc (.cells (fsC 0 0 0 (.slice none 0 0)) 28)
  have bR := Blk.new (w.alloc (.cells (fsC mi mb nx (.slice a l.length ca)) 28)) 28 (fsC 0 0 0 (.slice none 0 0))
  have hB := ((Below.refl w.heap.size w).alloc (Nat.le_refl _) (.cells (fsC mi mb nx (.slice a l.length ca)) 28)).alloc (by simp) (.cells (fsC 0 0 0 (.slice none 0 0)) 28)
  simp only [World.size_alloc] at bR
  have hNV := hv.below hB
  have hPt := refPut11_any mi mb nx 2 0 l base p [] _ _ hNV hf hb hp (by decide) hsn hnx
  clear hv
  obtain ⟨⟨p0, p1, p2, p3⟩, _⟩ := bF.four
  go_enter Tryz.func26, Tryz.ntmps26
  go_wp2_with fail
  refine hPt.mono ?_
  rintro e w3 ⟨y, ev, rfl, hN, b3⟩
  obtain ⟨ay, cy, rfl⟩ := nds_slice (hN.now hNV b3)
  generalize hZ : putF mi mb nx l base p 2 [] 0 ev = Z at *
  obtain ⟨⟨z1, z2⟩, z3⟩ := Z
  dsimp only at hN
  have HZ := Lib.hid hZ
  have hRl := bR.lt
  have hsz := hB.size
  clear hPt hZ p0 p1 p2 p3
  have bR3 := bR.next b3
  have hB3 := hB.trans (b3.mono hB.size)
  obtain ⟨⟨r0, r1, r2, r3⟩, e0, e1, e2, e3⟩ := bR3.four
  obtain ⟨W', hW', hb4, hg4⟩ := bR3.put4 (.int .i64 mi) (.int .i64 mb) (.int .i64 z1) (.slice ay z2.length cy)
  have hbl := below_grown hB3 hg4 (Nat.le_refl _) (by omega)
  have hM := hN.up (w := w) (w' := W') hsz (Kept.grown hg4 hRl)
  go_wp2
  obtain ⟨⟨y0, y1, y2, y3⟩, _⟩ := hb4.four
  refine bodyPost_ret (v := .tuple #[.agg (fsC mi mb z1 (.slice ay z2.length cy)), .int .i64 z3]) (by simp [results, Tryz.f26, go_sem, y0, y1, y2, y3]) rfl ?_
  exact ⟨_, ev, by rw [HZ.out], by rw [HZ.out]; exact hM, hbl⟩
set_option maxHeartbeats 4000000 in
theorem refCreate_any (mi mb nx : Int) (l : List Nd) (base p data : List UInt8) (v : Value) (w : World) (hv : Nds w v l) (hf : Fit l) (hb : base.length ≤ 100000) (hp : p.length ≤ 100000) (hdl : data.length ≤ 100000) (hsn : (seekP l base p false).1.name.length ≤ 100000) (hnx : -4611686018427387904 ≤ nx ∧ nx ≤ 4611686018427387904) :
    Calls Tryz.prog 27 #[.agg (fsC mi mb nx v), .string ⟨base.toArray⟩, .string ⟨p.toArray⟩, .string ⟨data.toArray⟩] w fun e w' => ∃ y ev, e = .returned (.tuple #[.agg (fsC mi mb (putF mi mb nx l base p 1 data 4 ev).1.1 y), .int .i64 (putF mi mb nx l base p 1 data 4 ev).2]) ∧ MadeFs w v l w' y (putF mi mb nx l base p 1 data 4 ev).1.2 ∧ Below w.heap.size w w' := by
  obtain ⟨a, ca, rfl⟩ := nds_slice hv
  have bF := (Blk.new w 28 (fsC mi mb nx (.slice a l.length ca))).alloc (.cells (fsC 0 0 0 (.slice none 0 0)) 28)
  have bR := Blk.new (w.alloc (.cells (fsC mi mb nx (.slice a l.length ca)) 28)) 28 (fsC 0 0 0 (.slice none 0 0))
  have hB := ((Below.refl w.heap.size w).alloc (Nat.le_refl _) (.cells (fsC mi mb nx (.slice a l.length ca)) 28)).alloc (by simp) (.cells (fsC 0 0 0 (.slice none 0 0)) 28)
  simp only [World.size_alloc] at bR
  have hNV := hv.below hB
  have hPt := refPut11_any mi mb nx 1 4 l base p data _ _ hNV hf hb hp hdl hsn hnx
  clear hv
  obtain ⟨⟨p0, p1, p2, p3⟩, _⟩ := bF.four
  go_enter Tryz.func27, Tryz.ntmps27
  go_wp2_with fail
  refine hPt.mono ?_
  rintro e w3 ⟨y, ev, rfl, hN, b3⟩
  obtain ⟨ay, cy, rfl⟩ := nds_slice (hN.now hNV b3)
  generalize hZ : putF mi mb nx l base p 1 data 4 ev = Z at *
  obtain ⟨⟨z1, z2⟩, z3⟩ := Z
  dsimp only at hN
  have HZ := Lib.hid hZ
  have hRl := bR.lt
  have hsz := hB.size
  clear hPt hZ p0 p1 p2 p3
  have bR3 := bR.next b3
  have hB3 := hB.trans (b3.mono hB.size)
  obtain ⟨⟨r0, r1, r2, r3⟩, e0, e1, e2, e3⟩ := bR3.four
  obtain ⟨W', hW', hb4, hg4⟩ := bR3.put4 (.int .i64 mi) (.int .i64 mb) (.int .i64 z1) (.slice ay z2.length cy)
  have hbl := below_grown hB3 hg4 (Nat.le_refl _) (by omega)
  have hM := hN.up (w := w) (w' := W') hsz (Kept.grown hg4 hRl)
  go_wp2
  obtain ⟨⟨y0, y1, y2, y3⟩, _⟩ := hb4.four
  refine bodyPost_ret (v := .tuple #[.agg (fsC mi mb z1 (.slice ay z2.length cy)), .int .i64 z3]) (by simp [results, Tryz.f27, go_sem, y0, y1, y2, y3]) rfl ?_
  exact ⟨_, ev, by rw [HZ.out], by rw [HZ.out]; exact hM, hbl⟩
theorem sym_empty {mi mb nx : Int} {l : List Nd} {base p : List UInt8} {ev : Value} : symF mi mb nx l base [] p ev = ((nx, l), 1) := by unfold symF; rw [if_pos rfl]
theorem sym_long {mi mb nx : Int} {l : List Nd} {base t p : List UInt8} {ev : Value} (h0 : t ≠ []) (h : 4095 < t.length) : symF mi mb nx l base t p ev = ((nx, l), 7) := by unfold symF; rw [if_neg h0, if_pos h]
theorem sym_zero {mi mb nx : Int} {l : List Nd} {base t p : List UInt8} {ev : Value} (h0 : t ≠ []) (h : ¬ 4095 < t.length) {k : Nat} (hk : k < t.length) (hz : t[k] = 0) : symF mi mb nx l base t p ev = ((nx, l), 9) := by
  have : t.contains 0 = true := by rw [List.contains_iff_mem, ← hz]; exact List.getElem_mem hk
  unfold symF; rw [if_neg h0, if_neg h, if_pos this]
theorem sym_put {mi mb nx : Int} {l : List Nd} {base t p : List UInt8} {ev : Value} (h0 : t ≠ []) (h : ¬ 4095 < t.length) (hz : ∀ j (hj : j < t.length), t[j] ≠ 0) : symF mi mb nx l base t p ev = putF mi mb nx l base p 3 t 1 ev := by
  have : t.contains 0 = false := by
    rw [Bool.eq_false_iff]
    intro hc
    rw [List.contains_iff_mem] at hc
    obtain ⟨j, hj, h2⟩ := List.getElem_of_mem hc
    exact hz j hj h2
  unfold symF; rw [if_neg h0, if_neg h, if_neg (by rw [this]; simp)]
set_option maxHeartbeats 4000000 in
theorem refSymlink_any (mi mb nx : Int) (l : List Nd) (base t p : List UInt8) (v : Value) (w : World) (hv : Nds w v l) (hf : Fit l) (hb : base.length ≤ 100000) (hp : p.length ≤ 100000) (hsn : (seekP l base p false).1.name.length ≤ 100000) (hnx : -4611686018427387904 ≤ nx ∧ nx ≤ 4611686018427387904) :
    Calls Tryz.prog 29 #[.agg (fsC mi mb nx v), .string ⟨base.toArray⟩, .string ⟨t.toArray⟩, .string ⟨p.toArray⟩] w fun e w' => ∃ y ev, e = .returned (.tuple #[.agg (fsC mi mb (symF mi mb nx l base t p ev).1.1 y), .int .i64 (symF mi mb nx l base t p ev).2]) ∧ MadeFs w v l w' y (symF mi mb nx l base t p ev).1.2 ∧ Below w.heap.size w w' := by
  obtain ⟨a, ca, rfl⟩ := nds_slice hv
  have bF := (Blk.new w 28 (fsC mi mb nx (.slice a l.length ca))).alloc (.cells (fsC 0 0 0 (.slice none 0 0)) 28)
  have bR := Blk.new (w.alloc (.cells (fsC mi mb nx (.slice a l.length ca)) 28)) 28 (fsC 0 0 0 (.slice none 0 0))
  have hB := ((Below.refl w.heap.size w).alloc (Nat.le_refl _) (.cells (fsC mi mb nx (.slice a l.length ca)) 28)).alloc (by simp) (.cells (fsC 0 0 0 (.slice none 0 0)) 28)
  simp only [World.size_alloc] at bR
  have hNV := hv.below hB
  have hPt := fun (h : t.length ≤ 100000) => refPut11_any mi mb nx 3 1 l base p t _ _ hNV hf hb hp h hsn hnx
  clear hv
  obtain ⟨⟨p0, p1, p2, p3⟩, _⟩ := bF.four
  have bR0 := bR
  obtain ⟨⟨r0, r1, r2, r3⟩, e0, e1, e2, e3⟩ := bR.four
  obtain ⟨W', hW', hb4, hg4⟩ := bR.put4 (.int .i64 mi) (.int .i64 mb) (.int .i64 nx) (.slice a l.length ca)
  have hbl := below_grown hB hg4 (Nat.le_refl _) (by omega)
  generalize hw0 : (w.alloc (.cells (fsC mi mb nx (.slice a l.length ca)) 28)).alloc (.cells (fsC 0 0 0 (.slice none 0 0)) 28) = W0 at *
  have HW := Lib.hid hW'
  clear hW'
  go_enter Tryz.func29, Tryz.ntmps29
  by_cases h0 : t = []
  · subst h0
    have HN := Lib.hid (fun ev => sym_empty (mi := mi) (mb := mb) (nx := nx) (l := l) (base := base) (p := p) (ev := ev))
    have hW' := HW.out
    go_wp2
    obtain ⟨⟨y0, y1, y2, y3⟩, _⟩ := hb4.four
    refine bodyPost_ret (v := .tuple #[.agg (fsC mi mb nx (.slice a l.length ca)), .int .i64 1]) (by simp [results, Tryz.f29, go_sem, y0, y1, y2, y3]) rfl ?_
    exact ⟨_, .slice none 0 0, by rw [HN.out], by rw [HN.out]; exact MadeFs.same _ _ _ _, hbl⟩
  have h0b : (t == []) = false := by simpa using h0
  by_cases hlo : 4095 < t.length
  · have HN := Lib.hid (fun ev => sym_long (mi := mi) (mb := mb) (nx := nx) (l := l) (base := base) (p := p) (ev := ev) h0 hlo)
    have hW' := HW.out
    clear h0
    go_wp2
    obtain ⟨⟨y0, y1, y2, y3⟩, _⟩ := hb4.four
    refine bodyPost_ret (v := .tuple #[.agg (fsC mi mb nx (.slice a l.length ca)), .int .i64 7]) (by simp [results, Tryz.f29, go_sem, y0, y1, y2, y3]) rfl ?_
    exact ⟨_, .slice none 0 0, by rw [HN.out], by rw [HN.out]; exact MadeFs.same _ _ _ _, hbl⟩
  have HZ := Lib.hid (fun ev (k : Nat) (hk : k < t.length) hz => sym_zero (mi := mi) (mb := mb) (nx := nx) (l := l) (base := base) (p := p) (ev := ev) h0 hlo hk hz)
  have HP := Lib.hid (fun ev hz => sym_put (mi := mi) (mb := mb) (nx := nx) (l := l) (base := base) (p := p) (ev := ev) h0 hlo hz)
  clear h0
  have hPt := hPt (by omega)
  have hRl := bR0.lt
  have hsz := hB.size
  go_wp2
  go_loop [10] (fun s10 => ∃ k : Nat, k ≤ t.length ∧ s10 = .int .i64 k ∧ Aside (∀ j (hj : j < t.length), j < k → t[j] ≠ 0)) (fun s10 => t.length - (intOf s10).toNat)
  case atStart => exact ⟨0, Nat.zero_le _, rfl, fun j hj h => absurd h (by omega)⟩
  case round =>
    obtain ⟨k, hk, rfl, HT⟩ := hrel
    by_cases hlt : k < t.length
    · by_cases hz : t[k] = 0
      · have HN := Lib.hid (fun ev => HZ.out ev k hlt hz)
        have hzb : ((t[k].toNat : Int) == 0) = true := by rw [hz]; rfl
        have hW' := HW.out
        clear hz hPt
        go_wp2
        obtain ⟨⟨y0, y1, y2, y3⟩, _⟩ := hb4.four
        refine bodyPost_ret (v := .tuple #[.agg (fsC mi mb nx (.slice a l.length ca)), .int .i64 9]) (by simp [results, Tryz.f29, go_sem, y0, y1, y2, y3]) rfl ?_
        exact ⟨_, .slice none 0 0, by rw [HN.out], by rw [HN.out]; exact MadeFs.same _ _ _ _, hbl⟩
      · have HT2 : Hid (∀ j (hj : j < t.length), j < k + 1 → t[j] ≠ 0) := by
          intro j hj h
          rcases Nat.lt_or_ge j k with h' | h'
          · exact HT.out j hj h'
          · obtain rfl : j = k := by omega
            exact hz
        have hzb : ((t[k].toNat : Int) == 0) = false := by
          rw [beq_eq_false_iff_ne]
          intro e
          exact hz (UInt8.toNat_inj.1 (by have : t[k].toNat = 0 := by omega
                                          rw [this]; rfl))
        clear hz
        go_wp2
        go_round
        case rel => exact ⟨k + 1, by omega, by go_num, HT2.out⟩
        case measure => simp [intOf]; omega
    · obtain rfl : k = t.length := by omega
      have HN := Lib.hid (fun ev => HP.out ev (fun j hj => HT.out j hj hj))
      clear HZ HP HT HW hb4 hg4 hbl r0 r1 r2 r3 e0 e1 e2 e3
      go_wp2_with fail
      refine hPt.mono ?_
      rintro e w3 ⟨y, ev, rfl, hN, b3⟩
      obtain ⟨ay, cy, rfl⟩ := nds_slice (hN.now hNV b3)
      have HNN := HN.out ev
      generalize putF mi mb nx l base p 3 t 1 ev = Z at *
      obtain ⟨⟨z1, z2⟩, z3⟩ := Z
      dsimp only at hN
      have HZ := Lib.hid HNN
      clear hPt HNN HN p0 p1 p2 p3
      have bR3 := bR0.next b3
      have hB3 := hB.trans (b3.mono hB.size)
      obtain ⟨⟨r0, r1, r2, r3⟩, e0, e1, e2, e3⟩ := bR3.four
      obtain ⟨W2, hW2, hb4, hg4⟩ := bR3.put4 (.int .i64 mi) (.int .i64 mb) (.int .i64 z1) (.slice ay z2.length cy)
      have hbl := below_grown hB3 hg4 (Nat.le_refl _) (by omega)
      have hM := hN.up (w := w) (w' := W2) hsz (Kept.grown hg4 hRl)
      go_wp2
      obtain ⟨⟨y0, y1, y2, y3⟩, _⟩ := hb4.four
      refine bodyPost_ret (v := .tuple #[.agg (fsC mi mb z1 (.slice ay z2.length cy)), .int .i64 z3]) (by simp [results, Tryz.f29, go_sem, y0, y1, y2, y3]) rfl ?_
      exact ⟨_, ev, by rw [HZ.out], by rw [HZ.out]; exact hM, hbl⟩
end Go.Proofs.YtkdmfeikikmiiaaGreat
