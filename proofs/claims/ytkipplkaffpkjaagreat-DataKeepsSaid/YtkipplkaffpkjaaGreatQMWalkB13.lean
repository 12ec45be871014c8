/- Texts put together: WalkB11, WalkA13, WalkB13. -/
import Derived.Test.YtkipplkaffpkjaaGreatQWalkA11
import Derived.Test.YtkipplkaffpkjaaGreatQMWalkH04
import Derived.Test.YtkipplkaffpkjaaGreatQMWalkB08
set_option linter.unusedVariables false
set_option linter.unusedSimpArgs false
/- Walks: the document's Mkdir, Create, Symlink. -/
set_option linter.unusedVariables false
set_option linter.unusedSimpArgs false
namespace Go.Proofs.YtkipplkaffpkjaaGreat
open Go.RowKit

theorem putF_err {mi mb nx : Int} {l : List Nd} {base p : List UInt8} {k : Int} {data : List UInt8} {rf : Int} {ev : Value} (h : (seekP l base p false).2 ≠ 0) : putF mi mb nx l base p k data rf ev = ((nx, l), (seekP l base p false).2) := by unfold putF; rw [if_pos h]
theorem putF_there {mi mb nx : Int} {l : List Nd} {base p : List UInt8} {k : Int} {data : List UInt8} {rf : Int} {ev : Value} (h : (seekP l base p false).2 = 0) (h2 : (seekP l base p false).1.ino ≠ 0) : putF mi mb nx l base p k data rf ev = ((nx, l), 2) := by unfold putF; rw [if_neg (by simp [h]), if_pos h2]
theorem putF_slash {mi mb nx : Int} {l : List Nd} {base p : List UInt8} {k : Int} {data : List UInt8} {rf : Int} {ev : Value} (h : (seekP l base p false).2 = 0) (h2 : (seekP l base p false).1.ino = 0) (h3 : rf ≠ 0 ∧ slashB p = true) : putF mi mb nx l base p k data rf ev = ((nx, l), rf) := by
  unfold putF; rw [if_neg (by simp [h]), if_neg (by simp [h2]), if_pos h3]
theorem putF_new {mi mb nx : Int} {l : List Nd} {base p : List UInt8} {k : Int} {data : List UInt8} {rf : Int} {ev : Value} (h : (seekP l base p false).2 = 0) (h2 : (seekP l base p false).1.ino = 0) (h3 : ¬ (rf ≠ 0 ∧ slashB p = true)) : putF mi mb nx l base p k data rf ev = newF mi mb nx l (seekP l base p false).1 k data ev := by
  unfold putF; rw [if_neg (by simp [h]), if_neg (by simp [h2]), if_neg h3]
/-- What the calls ask of a table that is sound. -/
structure Fit (l : List Nd) : Prop where
  calm : Calm l
  few : l.length ≤ 40
  bytes : bytesN l ≤ 1000000
theorem fit_of {mi mb nx : Int} {l : List Nd} (h : okB mi mb nx l = true) : Fit l := by
  have hf := (ok_parts h).1
  have h1 := (few_ents hf).2.1
  refine ⟨calm_of h, h1, ?_⟩
  have := bytesN_few (l := l) (m := 5000) fun x hx => ((calm_of h).size x hx).2.1
  omega
theorem field2 (a s : Bool) (v : Value) (w : World) : (Instr.field 78 (.agg (pathR a v s)) 2).run Tryz.prog w = .ok (.bool s) w := by kernel_rfl

end Go.Proofs.YtkipplkaffpkjaaGreat

/- Walks: the document's Stat, Read, Readlink. -/
set_option linter.unusedVariables false
set_option linter.unusedSimpArgs false
namespace Go.Proofs.YtkipplkaffpkjaaGreat
open Go.RowKit

set_option maxHeartbeats 8000000 in
set_option maxRecDepth 100000 in
theorem refStat_any (mi mb nx : Int) (l : List Nd) (base p : List UInt8) (fo : Bool) (v : Value) (w : World) (hv : Nds w v l) (hda : ∀ i, (getN l i).data.length ≤ 5000) (hb : base.length ≤ 100000) (hp : p.length ≤ 100000) :
    Calls Tryz.prog 11 #[.agg (fsC mi mb nx v), .string ⟨base.toArray⟩, .string ⟨p.toArray⟩, .bool fo] w fun e w' => e = .returned (.tuple #[.agg (ndC (statF l base p fo).1), .int .i64 (statF l base p fo).2]) ∧ Below w.heap.size w w' := by
  obtain ⟨a, ca, rfl⟩ := nds_slice hv
  have bF := (Blk.new w 24 (fsC mi mb nx (.slice a l.length ca))).alloc (.cells #[.int .i64 0, .int .i64 0, .int .i64 0, .string ⟨#[]⟩, .int .i64 0, .slice none 0 0] 29)
  have bR : Blk _ _ 29 (ndC zeroN) := Blk.new (w.alloc (.cells (fsC mi mb nx (.slice a l.length ca)) 24)) 29 (ndC zeroN)
  have hB := ((Below.refl w.heap.size w).alloc (Nat.le_refl _) (.cells (fsC mi mb nx (.slice a l.length ca)) 24)).alloc (by simp) (.cells #[.int .i64 0, .int .i64 0, .int .i64 0, .string ⟨#[]⟩, .int .i64 0, .slice none 0 0] 29)
  simp only [World.size_alloc] at bR
  have HV := Lib.hid hv
  have hSk := refSeek_any mi mb nx l base p fo _ _ (hv.below hB) hda hb hp
  have hF : statF l base p fo = statF l base p fo := rfl
  conv at hF => rhs; unfold statF
  have hGX := fun w' (h : Nds w' (.slice a l.length ca) l) => refGetT_any mi mb nx (seekP l base p fo).1.ino l _ w' h
  have hxs := get_slice hv (seekP l base p fo).1.ino
  generalize seekP l base p fo = Q at *
  obtain ⟨⟨qa, qb, qc⟩, qe⟩ := Q
  dsimp only at hF hSk hGX hxs
  have HF := Lib.hid hF
  clear hF hv hda
  obtain ⟨⟨p0, p1, p2, p3⟩, _⟩ := bF.four
  go_enter Tryz.func11, Tryz.ntmps11
  go_wp2_with fail
  refine hSk.mono ?_
  rintro e w1 ⟨rfl, b1⟩
  clear hSk p0 p1 p2 p3
  have b2 := b1.trans ((alloc_below w1 (.cells (spC ⟨qa, qb, qc⟩) 61)).mono b1.size)
  have bS := Blk.new w1 61 (spC ⟨qa, qb, qc⟩)
  replace bF := bF.next b2
  replace bR := bR.next b2
  replace hB := hB.trans (b2.mono hB.size)
  clear b1 b2
  obtain ⟨⟨p0, p1, p2, p3⟩, _⟩ := bF.four
  obtain ⟨⟨s0, s1, s2⟩, _⟩ := bS.three
  dsimp only at s0 s1 s2
  by_cases he : qe = 0
  case neg =>
    have HN : Hid (statF l base p fo = (zeroN, qe)) := by have := HF.out; rw [if_pos he] at this; exact this
    clear HF hGX hxs
    obtain ⟨⟨r0, r1, r2, r3, r4, r5⟩, e0, e1, e2, e3, e4, e5⟩ := bR.six
    obtain ⟨W', hW', hb4, hg4⟩ := bR.put6 zeroN
    simp only [zeroN] at hW' r0 r1 r2 r3 r4 r5
    have hbl := below_grown hB hg4 (Nat.le_refl _) (by omega)
    go_wp2
    obtain ⟨⟨y0, y1, y2, y3, y4, y5⟩, _⟩ := hb4.six
    simp only [zeroN] at y0 y1 y2 y3 y4 y5
    refine bodyPost_ret (v := .tuple #[.agg (ndC zeroN), .int .i64 qe]) (by simp [results, Tryz.f11, go_sem, y0, y1, y2, y3, y4, y5, zeroN]) rfl ?_
    exact ⟨by rw [HN.out], hbl⟩
  subst he
  have hG := hGX _ (HV.out.below hB)
  have h2 := HF.out
  rw [if_neg (by simp)] at h2
  replace HF := Lib.hid h2
  clear h2
  clear hGX
  generalize getN l qc = X at *
  obtain ⟨xi, xk, xl, xd, xp, xe, xn⟩ := X
  dsimp only at hxs
  obtain ⟨ax, nxx, cx, rfl⟩ := hxs
  cases hh : hasN l qc
  case false =>
    have HN : Hid (statF l base p fo = (zeroN, 1)) := by have := HF.out; rw [if_pos hh] at this; exact this
    rw [hh] at hG
    clear HF
    go_wp2_with fail
    refine hG.mono ?_
    rintro e w2 ⟨rfl, b1⟩
    clear hG p0 p1 p2 p3 s0 s1 s2
    have b2 := b1.trans ((alloc_below w2 (.cells (ndC ⟨xi, xk, xl, xd, xp, .slice ax nxx cx, xn⟩) 29)).mono b1.size)
    replace bR := bR.next b2
    replace hB := hB.trans (b2.mono hB.size)
    clear b1 b2
    obtain ⟨⟨r0, r1, r2, r3, r4, r5⟩, e0, e1, e2, e3, e4, e5⟩ := bR.six
    obtain ⟨W', hW', hb4, hg4⟩ := bR.put6 zeroN
    simp only [zeroN] at hW' r0 r1 r2 r3 r4 r5
    have hbl := below_grown hB hg4 (Nat.le_refl _) (by omega)
    go_wp2
    obtain ⟨⟨y0, y1, y2, y3, y4, y5⟩, _⟩ := hb4.six
    simp only [zeroN] at y0 y1 y2 y3 y4 y5
    refine bodyPost_ret (v := .tuple #[.agg (ndC zeroN), .int .i64 1]) (by simp [results, Tryz.f11, go_sem, y0, y1, y2, y3, y4, y5, zeroN]) rfl ?_
    exact ⟨by rw [HN.out], hbl⟩
  have HN : Hid (statF l base p fo = (⟨xi, xk, xl, xd, xp, .slice ax nxx cx, xn⟩, 0)) := by have := HF.out; rw [if_neg (by rw [hh]; simp)] at this; exact this
  rw [hh] at hG
  clear HF
  go_wp2_with fail
  refine hG.mono ?_
  rintro e w2 ⟨rfl, b1⟩
  clear hG p0 p1 p2 p3 s0 s1 s2
  have b2 := b1.trans ((alloc_below w2 (.cells (ndC ⟨xi, xk, xl, xd, xp, .slice ax nxx cx, xn⟩) 29)).mono b1.size)
  have bX := Blk.new w2 29 (ndC ⟨xi, xk, xl, xd, xp, .slice ax nxx cx, xn⟩)
  replace bR := bR.next b2
  replace hB := hB.trans (b2.mono hB.size)
  clear b1 b2
  obtain ⟨⟨x0, x1, x2, x3, x4, x5⟩, _⟩ := bX.six
  dsimp only at x0 x1 x2 x3 x4 x5
  obtain ⟨⟨r0, r1, r2, r3, r4, r5⟩, e0, e1, e2, e3, e4, e5⟩ := bR.six
  obtain ⟨W', hW', hb4, hg4⟩ := bR.put6 ⟨xi, xk, xl, xd, xp, .slice ax nxx cx, xn⟩
  simp only [zeroN] at r0 r1 r2 r3 r4 r5
  dsimp only at hW'
  have hbl := below_grown hB hg4 (Nat.le_refl _) (by omega)
  go_wp2
  obtain ⟨⟨y0, y1, y2, y3, y4, y5⟩, _⟩ := hb4.six
  dsimp only at y0 y1 y2 y3 y4 y5
  refine bodyPost_ret (v := .tuple #[.agg (ndC ⟨xi, xk, xl, xd, xp, .slice ax nxx cx, xn⟩), .int .i64 0]) (by simp [results, Tryz.f11, go_sem, y0, y1, y2, y3, y4, y5]) rfl ?_
  exact ⟨by rw [HN.out], hbl⟩
end Go.Proofs.YtkipplkaffpkjaaGreat

/- Walks: the document's Read, Readlink, Set, Write. -/
set_option linter.unusedVariables false
set_option linter.unusedSimpArgs false
namespace Go.Proofs.YtkipplkaffpkjaaGreat
open Go.RowKit

theorem stat_slice {w : World} {v : Value} {l : List Nd} (h : Nds w v l) (base p : List UInt8) (fo : Bool) : ∃ a n c, (statF l base p fo).1.ev = .slice a n c := by
  unfold statF
  split
  · exact ⟨_, _, _, rfl⟩
  split
  · exact ⟨_, _, _, rfl⟩
  · exact get_slice h _
theorem nd_set3 (i k ln : Int) (d e : List UInt8) (p : Int) (v : Value) (n : List Ent) : (ndC ⟨i, k, ln, d, p, v, n⟩).setIfInBounds 3 (.string ⟨e.toArray⟩) = ndC ⟨i, k, ln, e, p, v, n⟩ := rfl

set_option maxHeartbeats 4000000 in
theorem refRead13_any (mi mb nx : Int) (l : List Nd) (base p : List UInt8) (v : Value) (w : World) (hv : Nds w v l) (hda : ∀ i, (getN l i).data.length ≤ 5000) (hb : base.length ≤ 100000) (hp : p.length ≤ 100000) :
    Calls Tryz.prog 13 #[.agg (fsC mi mb nx v), .string ⟨base.toArray⟩, .string ⟨p.toArray⟩] w fun e w' => e = .returned (.tuple #[.string ⟨(readF l base p).1.toArray⟩, .int .i64 (readF l base p).2]) ∧ Below w.heap.size w w' := by
  obtain ⟨a, ca, rfl⟩ := nds_slice hv
  have bF := Blk.new w 24 (fsC mi mb nx (.slice a l.length ca))
  have hB := alloc_below w (.cells (fsC mi mb nx (.slice a l.length ca)) 24)
  have hG := refStat_any mi mb nx l base p true _ _ (hv.below hB) hda hb hp
  have hF : readF l base p = readF l base p := rfl
  conv at hF => rhs; unfold readF
  obtain ⟨ag, ng, cg, hgs⟩ := stat_slice hv base p true
  generalize statF l base p true = G at *
  obtain ⟨⟨gi, gk, gl, gd, gp, ge, gn⟩, er⟩ := G
  dsimp only at hG hF hgs
  subst hgs
  have HF := Lib.hid hF
  clear hF hv
  obtain ⟨⟨p0, p1, p2, p3⟩, _⟩ := bF.four
  go_enter Tryz.func13, Tryz.ntmps13
  go_wp2_with fail
  refine hG.mono ?_
  rintro e w1 ⟨rfl, b1⟩
  clear hG p0 p1 p2 p3
  have b2 := alloc_below w1 (.cells (ndC ⟨gi, gk, gl, gd, gp, .slice ag ng cg, gn⟩) 29)
  have bX := Blk.new w1 29 (ndC ⟨gi, gk, gl, gd, gp, .slice ag ng cg, gn⟩)
  have hB2 := (hB.trans (b1.mono hB.size)).trans (b2.mono (hB.trans (b1.mono hB.size)).size)
  obtain ⟨⟨x0, x1, x2, x3, x4, x5⟩, _⟩ := bX.six
  dsimp only at x0 x1 x2 x3 x4 x5
  clear b1 b2 hB bF bX
  by_cases her : er = 0
  case neg =>
    have h2 := HF.out
    rw [if_pos her] at h2
    have HN := Lib.hid h2
    clear HF h2
    go_wp2
    go_ret2
    exact ⟨by rw [HN.out]; rfl, hB2⟩
  subst her
  by_cases hk : gk = 2
  · have h2 := HF.out
    rw [if_neg (by simp), if_pos hk] at h2
    have HN := Lib.hid h2
    clear HF h2
    subst hk
    go_wp2
    go_ret2
    exact ⟨by rw [HN.out]; rfl, hB2⟩
  · have h2 := HF.out
    rw [if_neg (by simp), if_neg hk] at h2
    have HN := Lib.hid h2
    clear HF h2
    go_wp2
    go_ret2
    exact ⟨by rw [HN.out]; rfl, hB2⟩

set_option maxHeartbeats 4000000 in
theorem refReadlink13_any (mi mb nx : Int) (l : List Nd) (base p : List UInt8) (v : Value) (w : World) (hv : Nds w v l) (hda : ∀ i, (getN l i).data.length ≤ 5000) (hb : base.length ≤ 100000) (hp : p.length ≤ 100000) :
    Calls Tryz.prog 15 #[.agg (fsC mi mb nx v), .string ⟨base.toArray⟩, .string ⟨p.toArray⟩] w fun e w' => e = .returned (.tuple #[.string ⟨(rdlnkF l base p).1.toArray⟩, .int .i64 (rdlnkF l base p).2]) ∧ Below w.heap.size w w' := by
  obtain ⟨a, ca, rfl⟩ := nds_slice hv
  have bF := Blk.new w 24 (fsC mi mb nx (.slice a l.length ca))
  have hB := alloc_below w (.cells (fsC mi mb nx (.slice a l.length ca)) 24)
  have hG := refStat_any mi mb nx l base p false _ _ (hv.below hB) hda hb hp
  have hF : rdlnkF l base p = rdlnkF l base p := rfl
  conv at hF => rhs; unfold rdlnkF
  obtain ⟨ag, ng, cg, hgs⟩ := stat_slice hv base p false
  generalize statF l base p false = G at *
  obtain ⟨⟨gi, gk, gl, gd, gp, ge, gn⟩, er⟩ := G
  dsimp only at hG hF hgs
  subst hgs
  have HF := Lib.hid hF
  clear hF hv
  obtain ⟨⟨p0, p1, p2, p3⟩, _⟩ := bF.four
  go_enter Tryz.func15, Tryz.ntmps15
  go_wp2_with fail
  refine hG.mono ?_
  rintro e w1 ⟨rfl, b1⟩
  clear hG p0 p1 p2 p3
  have b2 := alloc_below w1 (.cells (ndC ⟨gi, gk, gl, gd, gp, .slice ag ng cg, gn⟩) 29)
  have bX := Blk.new w1 29 (ndC ⟨gi, gk, gl, gd, gp, .slice ag ng cg, gn⟩)
  have hB2 := (hB.trans (b1.mono hB.size)).trans (b2.mono (hB.trans (b1.mono hB.size)).size)
  obtain ⟨⟨x0, x1, x2, x3, x4, x5⟩, _⟩ := bX.six
  dsimp only at x0 x1 x2 x3 x4 x5
  clear b1 b2 hB bF bX
  by_cases her : er = 0
  case neg =>
    have h2 := HF.out
    rw [if_pos her] at h2
    have HN := Lib.hid h2
    clear HF h2
    go_wp2
    go_ret2
    exact ⟨by rw [HN.out]; rfl, hB2⟩
  subst her
  by_cases hk : gk = 3
  · have h2 := HF.out
    rw [if_neg (by simp), if_neg (by simp [hk])] at h2
    have HN := Lib.hid h2
    clear HF h2
    subst hk
    go_wp2
    go_ret2
    exact ⟨by rw [HN.out]; rfl, hB2⟩
  · have h2 := HF.out
    rw [if_neg (by simp), if_pos hk] at h2
    have HN := Lib.hid h2
    clear HF h2
    go_wp2
    go_ret2
    exact ⟨by rw [HN.out]; rfl, hB2⟩

set_option maxHeartbeats 4000000 in
theorem refSet13_any (mi mb nx i : Int) (l : List Nd) (data : List UInt8) (v : Value) (w : World) (hv : Nds w v l) (hr : riseP l) (hl : l.length ≤ 1000) (hby : bytesN l ≤ 1099511627776) (hdl : data.length ≤ 1000000) (hxd : (getN l i).data.length ≤ 1000000) :
    Calls Tryz.prog 22 #[.agg (fsC mi mb nx v), .int .i64 i, .string ⟨data.toArray⟩] w fun e w' => ∃ y, e = .returned (.tuple #[.agg (fsC mi mb nx y), .int .i64 (setF mi mb l i data).2]) ∧ MadeFs w v l w' y (setF mi mb l i data).1 ∧ Below w.heap.size w w' := by
  obtain ⟨a, ca, rfl⟩ := nds_slice hv
  have bF := (Blk.new w 24 (fsC mi mb nx (.slice a l.length ca))).alloc (.cells (fsC 0 0 0 (.slice none 0 0)) 24)
  have bR := Blk.new (w.alloc (.cells (fsC mi mb nx (.slice a l.length ca)) 24)) 24 (fsC 0 0 0 (.slice none 0 0))
  have hB := ((Below.refl w.heap.size w).alloc (Nat.le_refl _) (.cells (fsC mi mb nx (.slice a l.length ca)) 24)).alloc (by simp) (.cells (fsC 0 0 0 (.slice none 0 0)) 24)
  simp only [World.size_alloc] at bR
  have HV := Lib.hid hv
  have hG := refGetT_any mi mb nx i l _ _ (hv.below hB)
  have hF : setF mi mb l i data = setF mi mb l i data := rfl
  conv at hF => rhs; unfold setF dataL
  have hEX := fun W (h : EntsAll W l) => get_ents h i
  obtain ⟨ax, nxx, cx, hxs⟩ := get_slice hv i
  generalize getN l i = X at *
  generalize hasN l i = hs1 at *
  obtain ⟨xi, xk, xl, xd, xp, xe, xn⟩ := X
  dsimp only at hxs hF hEX hxd
  subst hxs
  have HF := Lib.hid hF
  have HEX := Lib.hid hEX
  clear hF hv hEX
  have hwx : IntKind.i64.wrap ((data.length : Int) - (xd.length : Int)) = (data.length : Int) - (xd.length : Int) := by rw [IntKind.wrap_i64]; omega
  obtain ⟨⟨p0, p1, p2, p3⟩, _⟩ := bF.four
  go_enter Tryz.func22, Tryz.ntmps22
  go_wp2_with fail
  refine hG.mono ?_
  rintro e w1 ⟨rfl, b1⟩
  clear hG p0 p1 p2 p3
  have b2 := b1.trans ((alloc_below w1 (.cells (ndC ⟨xi, xk, xl, xd, xp, .slice ax nxx cx, xn⟩) 29)).mono b1.size)
  have bX := Blk.new w1 29 (ndC ⟨xi, xk, xl, xd, xp, .slice ax nxx cx, xn⟩)
  have hXl : w.heap.size + 1 < w1.heap.size := (bR.next b1).lt
  replace bF := bF.next b2
  replace bR := bR.next b2
  replace hB := hB.trans (b2.mono hB.size)
  clear b1 b2
  have hFt := refFits_any mi mb nx 0 ((data.length : Int) - (xd.length : Int)) l _ _ (HV.out.below hB) (by omega) hby (by decide) (by omega)
  obtain ⟨⟨p0, p1, p2, p3⟩, _⟩ := bF.four
  obtain ⟨⟨x0, x1, x2, x3, x4, x5⟩, _⟩ := bX.six
  dsimp only at x0 x1 x2 x3 x4 x5
  go_wp2_with fail
  refine hFt.mono ?_
  rintro e w2 ⟨rfl, b1⟩
  clear hFt p0 p1 p2 p3 x0 x1 x2 x3 x4 x5
  replace bF := bF.next b1
  replace bR := bR.next b1
  replace bX := bX.next b1
  replace hB := hB.trans (b1.mono hB.size)
  clear b1
  generalize w1.heap.size = BX at *
  obtain ⟨⟨p0, p1, p2, p3⟩, _⟩ := bF.four
  cases hf : fitsB mi mb l 0 ((data.length : Int) - (xd.length : Int))
  case false =>
    have h2 := HF.out
    rw [if_pos hf] at h2
    have HN := Lib.hid h2
    clear HF h2
    obtain ⟨⟨r0, r1, r2, r3⟩, e0, e1, e2, e3⟩ := bR.four
    obtain ⟨W', hW', hb4, hg4⟩ := bR.put4 (.int .i64 mi) (.int .i64 mb) (.int .i64 nx) (.slice a l.length ca)
    have hbl := below_grown hB hg4 (Nat.le_refl _) (by omega)
    go_wp2
    obtain ⟨⟨y0, y1, y2, y3⟩, _⟩ := hb4.four
    refine bodyPost_ret (v := .tuple #[.agg (fsC mi mb nx (.slice a l.length ca)), .int .i64 8]) (by simp [results, Tryz.f22, go_sem, y0, y1, y2, y3]) rfl ?_
    exact ⟨_, by rw [HN.out], by rw [HN.out]; exact MadeFs.same _ _ _ _, hbl⟩
  have h2 := HF.out
  rw [if_neg (by rw [hf]; simp)] at h2
  have HN := Lib.hid h2
  clear HF h2
  obtain ⟨⟨x0, x1, x2, x3, x4, x5⟩, f0, f1, f2, f3, f4, f5⟩ := bX.six
  dsimp only at x0 x1 x2 x3 x4 x5
  have bX5 := bX.set 3 (.string ⟨data.toArray⟩)
  rw [nd_set3] at bX5
  have bF5 := bF.other (B2 := BX) (i := 3) (by omega) (.string ⟨data.toArray⟩)
  have bR5 := bR.other (B2 := BX) (i := 3) (by omega) (.string ⟨data.toArray⟩)
  have hB5 := hB.setCell (p := ⟨BX, 3, none⟩) (by show w.heap.size ≤ BX; omega) (.string ⟨data.toArray⟩)
  clear p0 p1 p2 p3
  generalize hw5 : World.setCell w2 ⟨BX, 3, none⟩ (.string ⟨data.toArray⟩) = w5 at *
  obtain ⟨⟨p0, p1, p2, p3⟩, _⟩ := bF5.four
  obtain ⟨⟨y0, y1, y2, y3, y4, y5⟩, _⟩ := bX5.six
  dsimp only at y0 y1 y2 y3 y4 y5
  clear bF bR bX hB
  have hSe := refSetT_any mi mb nx l ⟨xi, xk, xl, data, xp, .slice ax nxx cx, xn⟩ _ _ (HV.out.below hB5) (HEX.out _ (HV.out.below hB5).all) hr (by omega)
  go_wp2_with fail
  refine hSe.mono ?_
  rintro e w9 ⟨v9, rfl, hnew⟩
  obtain ⟨a9, c9, rfl⟩ := own_slice hnew.1
  have b9 := hnew.2
  have hB9 := hB5.trans (b9.mono hB5.size)
  have bR9 := bR5.next b9
  have hRl8 := bR5.lt
  have hown9 := hnew.1
  clear p0 p1 p2 p3 x0 x1 x2 x3 x4 x5 y0 y1 y2 y3 y4 y5 f0 f1 f2 f3 f4 f5
  obtain ⟨_, e0, e1, e2, e3⟩ := bR9.four
  obtain ⟨W', hW', hb4, hg4⟩ := bR9.put4 (.int .i64 mi) (.int .i64 mb) (.int .i64 nx) (.slice a9 (setN l ⟨xi, xk, xl, data, xp, .slice ax nxx cx, xn⟩).length c9)
  have hbl := below_grown hB9 hg4 (Nat.le_refl _) (by omega)
  have hNW : MadeFs w (.slice a l.length ca) l W' (.slice a9 (setN l ⟨xi, xk, xl, data, xp, .slice ax nxx cx, xn⟩).length c9) (setN l ⟨xi, xk, xl, data, xp, .slice ax nxx cx, xn⟩) := fun W hkW hvW => by
    refine own_nds (own_kept (hown9.kept hg4 (own_not hown9 hRl8)) hkW (by omega)) fun z hz => ?_
    rcases mem_setN hz with rfl | h
    · exact HEX.out W hvW.all
    · exact hvW.all z h
  clear hSe hnew bF5 bR5 bX5 hB5 b9 hB9 bR9 hown9
  go_wp2
  obtain ⟨⟨r0, r1, r2, r3⟩, _⟩ := hb4.four
  refine bodyPost_ret (v := .tuple #[.agg (fsC mi mb nx (.slice a9 (setN l ⟨xi, xk, xl, data, xp, .slice ax nxx cx, xn⟩).length c9)), .int .i64 0]) (by simp [results, Tryz.f22, go_sem, r0, r1, r2, r3]) rfl ?_
  exact ⟨_, by rw [HN.out], by rw [HN.out]; exact hNW, hbl⟩

set_option maxHeartbeats 4000000 in
theorem refWrite13_any (mi mb nx : Int) (l : List Nd) (base p data : List UInt8) (v : Value) (w : World) (hv : Nds w v l) (hf : Fit l) (hb : base.length ≤ 100000) (hp : p.length ≤ 100000) (hdl : data.length ≤ 1000000) :
    Calls Tryz.prog 18 #[.agg (fsC mi mb nx v), .string ⟨base.toArray⟩, .string ⟨p.toArray⟩, .string ⟨data.toArray⟩] w fun e w' => ∃ y, e = .returned (.tuple #[.agg (fsC mi mb nx y), .int .i64 (writeF mi mb l base p data).2]) ∧ MadeFs w v l w' y (writeF mi mb l base p data).1 ∧ Below w.heap.size w w' := by
  obtain ⟨a, ca, rfl⟩ := nds_slice hv
  have bF := (Blk.new w 24 (fsC mi mb nx (.slice a l.length ca))).alloc (.cells (fsC 0 0 0 (.slice none 0 0)) 24)
  have bR := Blk.new (w.alloc (.cells (fsC mi mb nx (.slice a l.length ca)) 24)) 24 (fsC 0 0 0 (.slice none 0 0))
  have hB := ((Below.refl w.heap.size w).alloc (Nat.le_refl _) (.cells (fsC mi mb nx (.slice a l.length ca)) 24)).alloc (by simp) (.cells (fsC 0 0 0 (.slice none 0 0)) 24)
  simp only [World.size_alloc] at bR
  have HV := Lib.hid hv
  have hda : ∀ i, (getN l i).data.length ≤ 5000 := fun i => (calm_get hf.calm i).2.2.1
  have hRd := refRead13_any mi mb nx l base p _ _ (hv.below hB) hda hb hp
  have hSt := fun w' (h : Nds w' (.slice a l.length ca) l) => refStat_any mi mb nx l base p true _ w' h hda hb hp
  have hSe := fun i w' (h : Nds w' (.slice a l.length ca) l) => refSet13_any mi mb nx i l data _ w' h hf.calm.rise (by have := hf.calm.len; omega) (by have := hf.bytes; omega) hdl (by have := hda i; omega)
  have hF : writeF mi mb l base p data = writeF mi mb l base p data := rfl
  conv at hF => rhs; unfold writeF
  obtain ⟨ax, nxx, cx, hxs⟩ := stat_slice hv base p true
  generalize statF l base p true = G at *
  generalize readF l base p = R at *
  obtain ⟨⟨xi, xk, xl, xd, xp, xe, xn⟩, er⟩ := G
  obtain ⟨rd, re⟩ := R
  dsimp only at hRd hSt hxs hF
  subst hxs
  have HF := Lib.hid hF
  clear hF hv hda
  obtain ⟨⟨p0, p1, p2, p3⟩, _⟩ := bF.four
  go_enter Tryz.func18, Tryz.ntmps18
  go_wp2_with fail
  refine hRd.mono ?_
  rintro e w1 ⟨rfl, b1⟩
  clear hRd p0 p1 p2 p3
  replace bF := bF.next b1
  replace bR := bR.next b1
  replace hB := hB.trans (b1.mono hB.size)
  clear b1
  obtain ⟨⟨p0, p1, p2, p3⟩, _⟩ := bF.four
  by_cases he : re = 0
  case neg =>
    have h2 := HF.out
    rw [if_pos he] at h2
    have HN := Lib.hid h2
    clear HF h2 hSt hSe
    obtain ⟨⟨r0, r1, r2, r3⟩, e0, e1, e2, e3⟩ := bR.four
    obtain ⟨W', hW', hb4, hg4⟩ := bR.put4 (.int .i64 mi) (.int .i64 mb) (.int .i64 nx) (.slice a l.length ca)
    have hbl := below_grown hB hg4 (Nat.le_refl _) (by omega)
    go_wp2
    obtain ⟨⟨y0, y1, y2, y3⟩, _⟩ := hb4.four
    refine bodyPost_ret (v := .tuple #[.agg (fsC mi mb nx (.slice a l.length ca)), .int .i64 re]) (by simp [results, Tryz.f18, go_sem, y0, y1, y2, y3]) rfl ?_
    exact ⟨_, by rw [HN.out], by rw [HN.out]; exact MadeFs.same _ _ _ _, hbl⟩
  subst he
  have h2 := HF.out
  rw [if_neg (by simp)] at h2
  have HN := Lib.hid h2
  clear HF h2
  go_wp2_with fail
  refine (hSt _ (HV.out.below hB)).mono ?_
  rintro e w2 ⟨rfl, b1⟩
  clear hSt p0 p1 p2 p3
  have b2 := b1.trans ((alloc_below w2 (.cells (ndC ⟨xi, xk, xl, xd, xp, .slice ax nxx cx, xn⟩) 29)).mono b1.size)
  have bX := Blk.new w2 29 (ndC ⟨xi, xk, xl, xd, xp, .slice ax nxx cx, xn⟩)
  replace bF := bF.next b2
  replace bR := bR.next b2
  replace hB := hB.trans (b2.mono hB.size)
  clear b1 b2
  obtain ⟨⟨p0, p1, p2, p3⟩, _⟩ := bF.four
  obtain ⟨⟨x0, x1, x2, x3, x4, x5⟩, _⟩ := bX.six
  dsimp only at x0 x1 x2 x3 x4 x5
  go_wp2_with fail
  refine (hSe xi _ (HV.out.below hB)).mono ?_
  rintro e w5 ⟨y, rfl, hN, b3⟩
  obtain ⟨ay, cy, rfl⟩ := nds_slice (hN.now (HV.out.below hB) b3)
  generalize setF mi mb l xi data = Z at *
  obtain ⟨Z, ze⟩ := Z
  dsimp only at hN
  have hRl := bR.lt
  have hsz := hB.size
  clear hSe p0 p1 p2 p3 x0 x1 x2 x3 x4 x5
  have bR3 := bR.next b3
  have hB3 := hB.trans (b3.mono hB.size)
  obtain ⟨⟨r0, r1, r2, r3⟩, e0, e1, e2, e3⟩ := bR3.four
  obtain ⟨W', hW', hb4, hg4⟩ := bR3.put4 (.int .i64 mi) (.int .i64 mb) (.int .i64 nx) (.slice ay Z.length cy)
  have hbl := below_grown hB3 hg4 (Nat.le_refl _) (by omega)
  have hM := hN.up (w := w) (w' := W') hsz (Kept.grown hg4 hRl)
  go_wp2
  obtain ⟨⟨y0, y1, y2, y3⟩, _⟩ := hb4.four
  refine bodyPost_ret (v := .tuple #[.agg (fsC mi mb nx (.slice ay Z.length cy)), .int .i64 ze]) (by simp [results, Tryz.f18, go_sem, y0, y1, y2, y3]) rfl ?_
  exact ⟨_, by rw [HN.out], by rw [HN.out]; exact hM, hbl⟩
end Go.Proofs.YtkipplkaffpkjaaGreat
