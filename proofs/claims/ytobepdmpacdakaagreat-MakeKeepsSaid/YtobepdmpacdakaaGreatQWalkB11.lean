/- Walks: the document's Mkdir, Create, Symlink. -/
import Derived.Test.YtobepdmpacdakaaGreatQWalkA11
set_option linter.unusedVariables false
set_option linter.unusedSimpArgs false
namespace Go.Proofs.YtobepdmpacdakaaGreat
open Go.RowKit

theorem putF_err {mi mb nx : Int} {l : List Nd} {base p : List UInt8} {k : Int} {data : List UInt8} {rf : Int} {ev : Value} (h : (seekP l base p false).2 ≠ 0) : putF mi mb nx l base p k data rf ev = ((nx, l), (seekP l base p false).2) := by unfold putF; rw [if_pos h]
theorem putF_there {mi mb nx : Int} {l : List Nd} {base p : List UInt8} {k : Int} {data : List UInt8} {rf : Int} {ev : Value} (h : (seekP l base p false).2 = 0) (h2 : (seekP l base p false).1.ino ≠ 0) : putF mi mb nx l base p k data rf ev = ((nx, l), 2) := by unfold putF; rw [if_neg (by simp [h]), if_pos h2]
theorem putF_slash {mi mb nx : Int} {l : List Nd} {base p : List UInt8} {k : Int} {data : List UInt8} {rf : Int} {ev : Value} (h : (seekP l base p false).2 = 0) (h2 : (seekP l base p false).1.ino = 0) (h3 : rf ≠ 0 ∧ slashB p = true) : putF mi mb nx l base p k data rf ev = ((nx, l), rf) := by
  unfold putF; rw [if_neg (by simp [h]), if_neg (by simp [h2]), if_pos h3]
theorem putF_new {mi mb nx : Int} {l : List Nd} {base p : List UInt8} {k : Int} {data : List UInt8} {rf : Int} {ev : Value} (h : (seekP l base p false).2 = 0) (h2 : (seekP l base p false).1.ino = 0) (h3 : ¬ (rf ≠ 0 ∧ slashB p = true)) : putF mi mb nx l base p k data rf ev = newF mi mb nx l (seekP l base p false).1 k data ev := by
  unfold putF; rw [if_neg (by simp [h]), if_neg (by simp [h2]), if_neg h3]
/-- What the calls ask of a table that is sound. -/
structure Fit (l : List Nd) : Prop where
  calm : Calm l
  few : l.length ≤ 40
  bytes : bytesN l ≤ 1000000
theorem fit_of {mi mb nx : Int} {l : List Nd} (h : okB mi mb nx l = true) : Fit l := by
  have hf := (ok_parts h).1
  have h1 := (few_ents hf).2.1
  refine ⟨calm_of h, h1, ?_⟩
  have := bytesN_few (l := l) (m := 5000) fun x hx => ((calm_of h).size x hx).2.1
  omega
theorem field2 (a s : Bool) (v : Value) (w : World) : (Instr.field 62 (.agg (pathR a v s)) 2).run Tryz.prog w = .ok (.bool s) w := by kernel_rfl

set_option maxHeartbeats 8000000 in
set_option maxRecDepth 100000 in
theorem refPut11_any (mi mb nx k rf : Int) (l : List Nd) (base p data : List UInt8) (v : Value) (w : World) (hv : Nds w v l) (hf : Fit l) (hb : base.length ≤ 100000) (hp : p.length ≤ 100000) (hdl : data.length ≤ 100000) (hsn : (seekP l base p false).1.name.length ≤ 100000) (hnx : -4611686018427387904 ≤ nx ∧ nx ≤ 4611686018427387904) :
    Calls Tryz.prog 29 #[.agg (fsC mi mb nx v), .string ⟨base.toArray⟩, .string ⟨p.toArray⟩, .int .i64 k, .string ⟨data.toArray⟩, .int .i64 rf] w fun e w' => ∃ y ev, e = .returned (.tuple #[.agg (fsC mi mb (putF mi mb nx l base p k data rf ev).1.1 y), .int .i64 (putF mi mb nx l base p k data rf ev).2]) ∧ MadeFs w v l w' y (putF mi mb nx l base p k data rf ev).1.2 ∧ Below w.heap.size w w' := by
  obtain ⟨a, ca, rfl⟩ := nds_slice hv
  have bF := (Blk.new w 24 (fsC mi mb nx (.slice a l.length ca))).alloc (.cells (fsC 0 0 0 (.slice none 0 0)) 24)
  have bR := Blk.new (w.alloc (.cells (fsC mi mb nx (.slice a l.length ca)) 24)) 24 (fsC 0 0 0 (.slice none 0 0))
  have hB := ((Below.refl w.heap.size w).alloc (Nat.le_refl _) (.cells (fsC mi mb nx (.slice a l.length ca)) 24)).alloc (by simp) (.cells (fsC 0 0 0 (.slice none 0 0)) 24)
  simp only [World.size_alloc] at bR
  have HV := Lib.hid hv
  have hda : ∀ i, (getN l i).data.length ≤ 5000 := fun i => (calm_get hf.calm i).2.2.1
  have hSk := refSeek_any mi mb nx l base p false _ _ (hv.below hB) hda hb hp
  have h1 := fun ev => putF_err (mi := mi) (mb := mb) (nx := nx) (l := l) (base := base) (p := p) (k := k) (data := data) (rf := rf) (ev := ev)
  have h2 := fun ev => putF_there (mi := mi) (mb := mb) (nx := nx) (l := l) (base := base) (p := p) (k := k) (data := data) (rf := rf) (ev := ev)
  have h3 := fun ev => putF_slash (mi := mi) (mb := mb) (nx := nx) (l := l) (base := base) (p := p) (k := k) (data := data) (rf := rf) (ev := ev)
  have h4 := fun ev => putF_new (mi := mi) (mb := mb) (nx := nx) (l := l) (base := base) (p := p) (k := k) (data := data) (rf := rf) (ev := ev)
  have hNw := fun w' (h : Nds w' (.slice a l.length ca) l) => refNew_any mi mb nx k l (seekP l base p false).1 data _ w' h hf.calm.rise ((rightB_iff _).1 (calm_get hf.calm _).1).2 (calm_get hf.calm _).2.1 (by have := hf.few; omega) hf.bytes hdl hsn hnx
  generalize seekP l base p false = Q at *
  obtain ⟨⟨qa, qb, qc⟩, qe⟩ := Q
  dsimp only at h1 h2 h3 h4 hSk hNw
  have H1 := Lib.hid h1
  have H2 := Lib.hid h2
  have H3 := Lib.hid h3
  have H4 := Lib.hid h4
  clear h1 h2 h3 h4 hv hsn hda
  obtain ⟨⟨p0, p1, p2, p3⟩, _⟩ := bF.four
  go_enter Tryz.func29, Tryz.ntmps29
  go_wp2_with fail
  refine hSk.mono ?_
  rintro e w1 ⟨rfl, b1⟩
  clear hSk p0 p1 p2 p3
  have s1 := alloc_below w1 (.cells (spC ⟨qa, qb, qc⟩) 37)
  have bS := Blk.new w1 37 (spC ⟨qa, qb, qc⟩)
  have b2 := b1.trans (s1.mono b1.size)
  replace bF := bF.next b2
  replace bR := bR.next b2
  replace hB := hB.trans (b2.mono hB.size)
  clear b1 s1 b2
  obtain ⟨⟨p0, p1, p2, p3⟩, _⟩ := bF.four
  obtain ⟨⟨s0, s1, s2⟩, _⟩ := bS.three
  dsimp only at s0 s1 s2
  by_cases he : qe = 0
  · subst he
    by_cases hc : qc = 0
    · subst hc
      by_cases hrf : rf = 0
      · subst hrf
        have HN := Lib.hid (fun ev => H4.out ev rfl rfl (fun h => h.1 rfl))
        clear H1 H2 H3 H4
        go_wp2_with fail
        refine (hNw _ (HV.out.below hB)).mono ?_
        rintro e w3 ⟨y, ev, rfl, hN, b3⟩
        obtain ⟨ay, cy, rfl⟩ := nds_slice (hN.now (HV.out.below hB) b3)
        have HNN := HN.out ev
        generalize newF mi mb nx l ⟨qa, qb, 0⟩ k data ev = Z at *
        obtain ⟨⟨z1, z2⟩, z3⟩ := Z
        dsimp only at hN
        have hRl := bR.lt
        have hsz := hB.size
        clear hNw p0 p1 p2 p3 s0 s1 s2 HN
        have HNN2 := Lib.hid HNN
        clear HNN
        have bR3 := bR.next b3
        have hB3 := hB.trans (b3.mono hB.size)
        obtain ⟨⟨r0, r1, r2, r3⟩, e0, e1, e2, e3⟩ := bR3.four
        obtain ⟨W', hW', hb4, hg4⟩ := bR3.put4 (.int .i64 mi) (.int .i64 mb) (.int .i64 z1) (.slice ay z2.length cy)
        have hbl := below_grown hB3 hg4 (Nat.le_refl _) (by omega)
        have hM := hN.up (w := w) (w' := W') hsz (Kept.grown hg4 hRl)
        go_wp2
        obtain ⟨⟨y0, y1, y2, y3⟩, _⟩ := hb4.four
        refine bodyPost_ret (v := .tuple #[.agg (fsC mi mb z1 (.slice ay z2.length cy)), .int .i64 z3]) (by simp [results, Tryz.f29, go_sem, y0, y1, y2, y3]) rfl ?_
        exact ⟨_, ev, by rw [HNN2.out], by rw [HNN2.out]; exact hM, hbl⟩
      · cases hsl : slashB p
        · have HN := Lib.hid (fun ev => H4.out ev rfl rfl (fun h => by rw [hsl] at h; cases h.2))
          have hRd := fun w' => refReadC_any p w' (by omega)
          rw [hsl] at hRd
          clear H1 H2 H3 H4
          go_wp2_with fail
          refine (hRd _).mono ?_
          rintro e w2 ⟨vp, rfl, hst, b2⟩
          obtain ⟨ap, np, cp, rfl, _⟩ := id hst.2
          have hfi := field2 (absB p) false (.slice ap np cp)
          replace bF := bF.next b2
          replace bR := bR.next b2
          replace bS := bS.next b2
          replace hB := hB.trans (b2.mono hB.size)
          clear hst b2 hRd p0 p1 p2 p3 s0 s1 s2
          obtain ⟨⟨p0, p1, p2, p3⟩, _⟩ := bF.four
          obtain ⟨⟨s0, s1, s2⟩, _⟩ := bS.three
          dsimp only at s0 s1 s2
          go_wp2_with fail
          refine (hNw _ (HV.out.below hB)).mono ?_
          rintro e w3 ⟨y, ev, rfl, hN, b3⟩
          obtain ⟨ay, cy, rfl⟩ := nds_slice (hN.now (HV.out.below hB) b3)
          have HNN := HN.out ev
          generalize newF mi mb nx l ⟨qa, qb, 0⟩ k data ev = Z at *
          obtain ⟨⟨z1, z2⟩, z3⟩ := Z
          dsimp only at hN
          have hRl := bR.lt
          have hsz := hB.size
          clear hNw p0 p1 p2 p3 s0 s1 s2 HN
          have HNN2 := Lib.hid HNN
          clear HNN
          have bR3 := bR.next b3
          have hB3 := hB.trans (b3.mono hB.size)
          obtain ⟨⟨r0, r1, r2, r3⟩, e0, e1, e2, e3⟩ := bR3.four
          obtain ⟨W', hW', hb4, hg4⟩ := bR3.put4 (.int .i64 mi) (.int .i64 mb) (.int .i64 z1) (.slice ay z2.length cy)
          have hbl := below_grown hB3 hg4 (Nat.le_refl _) (by omega)
          have hM := hN.up (w := w) (w' := W') hsz (Kept.grown hg4 hRl)
          go_wp2
          obtain ⟨⟨y0, y1, y2, y3⟩, _⟩ := hb4.four
          refine bodyPost_ret (v := .tuple #[.agg (fsC mi mb z1 (.slice ay z2.length cy)), .int .i64 z3]) (by simp [results, Tryz.f29, go_sem, y0, y1, y2, y3]) rfl ?_
          exact ⟨_, ev, by rw [HNN2.out], by rw [HNN2.out]; exact hM, hbl⟩
        · have HN := Lib.hid (fun ev => H3.out ev rfl rfl ⟨hrf, hsl⟩)
          have hRd := fun w' => refReadC_any p w' (by omega)
          rw [hsl] at hRd
          clear H1 H2 H3 H4 hNw
          go_wp2_with fail
          refine (hRd _).mono ?_
          rintro e w2 ⟨vp, rfl, hst, b2⟩
          obtain ⟨ap, np, cp, rfl, _⟩ := id hst.2
          have hfi := field2 (absB p) true (.slice ap np cp)
          replace bF := bF.next b2
          replace bR := bR.next b2
          replace bS := bS.next b2
          replace hB := hB.trans (b2.mono hB.size)
          clear hst b2 hRd p0 p1 p2 p3 s0 s1 s2
          obtain ⟨⟨p0, p1, p2, p3⟩, _⟩ := bF.four
          obtain ⟨⟨r0, r1, r2, r3⟩, e0, e1, e2, e3⟩ := bR.four
          obtain ⟨W', hW', hb4, hg4⟩ := bR.put4 (.int .i64 mi) (.int .i64 mb) (.int .i64 nx) (.slice a l.length ca)
          have hbl := below_grown hB hg4 (Nat.le_refl _) (by omega)
          go_wp2
          obtain ⟨⟨y0, y1, y2, y3⟩, _⟩ := hb4.four
          refine bodyPost_ret (v := .tuple #[.agg (fsC mi mb nx (.slice a l.length ca)), .int .i64 rf]) (by simp [results, Tryz.f29, go_sem, y0, y1, y2, y3]) rfl ?_
          exact ⟨_, .slice none 0 0, by rw [HN.out], by rw [HN.out]; exact MadeFs.same _ _ _ _, hbl⟩
    · have HN := Lib.hid (fun ev => H2.out ev rfl hc)
      clear H1 H2 H3 H4 hNw
      obtain ⟨⟨r0, r1, r2, r3⟩, e0, e1, e2, e3⟩ := bR.four
      obtain ⟨W', hW', hb4, hg4⟩ := bR.put4 (.int .i64 mi) (.int .i64 mb) (.int .i64 nx) (.slice a l.length ca)
      have hbl := below_grown hB hg4 (Nat.le_refl _) (by omega)
      go_wp2
      obtain ⟨⟨y0, y1, y2, y3⟩, _⟩ := hb4.four
      refine bodyPost_ret (v := .tuple #[.agg (fsC mi mb nx (.slice a l.length ca)), .int .i64 2]) (by simp [results, Tryz.f29, go_sem, y0, y1, y2, y3]) rfl ?_
      exact ⟨_, .slice none 0 0, by rw [HN.out], by rw [HN.out]; exact MadeFs.same _ _ _ _, hbl⟩
  · have HN := Lib.hid (fun ev => H1.out ev he)
    clear H1 H2 H3 H4 hNw
    obtain ⟨⟨r0, r1, r2, r3⟩, e0, e1, e2, e3⟩ := bR.four
    obtain ⟨W', hW', hb4, hg4⟩ := bR.put4 (.int .i64 mi) (.int .i64 mb) (.int .i64 nx) (.slice a l.length ca)
    have hbl := below_grown hB hg4 (Nat.le_refl _) (by omega)
    go_wp2
    obtain ⟨⟨y0, y1, y2, y3⟩, _⟩ := hb4.four
    refine bodyPost_ret (v := .tuple #[.agg (fsC mi mb nx (.slice a l.length ca)), .int .i64 qe]) (by simp [results, Tryz.f29, go_sem, y0, y1, y2, y3]) rfl ?_
    exact ⟨_, .slice none 0 0, by rw [HN.out], by rw [HN.out]; exact MadeFs.same _ _ _ _, hbl⟩
end Go.Proofs.YtobepdmpacdakaaGreat
