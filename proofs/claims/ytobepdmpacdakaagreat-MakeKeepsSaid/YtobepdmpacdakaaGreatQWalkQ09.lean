/- Walks: the program's Get of a plain path. -/
import Derived.Test.YtobepdmpacdakaaGreatQWalkP09
set_option linter.unusedVariables false
set_option linter.unusedSimpArgs false
namespace Go.Proofs.YtobepdmpacdakaaGreat
open Go.RowKit

set_option maxHeartbeats 4000000 in
theorem GetP_any (mi mb nx : Int) (l : List Nd) (p : List UInt8) (v : Value) (w : World) (hv : Nds w v l) (hp : p.length ≤ 50000) (hc : Calm l) (hin : LeadsIn l p) :
    Calls Tryz.prog 94 #[.agg (fsC mi mb nx v), .string ⟨p.toArray⟩] w fun e w' => e = .returned (.tuple #[.agg (ndC (getP l p).1), .int .i64 (getP l p).2]) ∧ Below w.heap.size w w' := by
  obtain ⟨a, ca, rfl⟩ := nds_slice hv
  have bF := (Blk.new w 24 (fsC mi mb nx (.slice a l.length ca))).alloc (.cells #[.int .i64 0, .int .i64 0, .int .i64 0, .string ⟨#[]⟩, .int .i64 0, .slice none 0 0] 45)
  have bR : Blk ((w.alloc (.cells (fsC mi mb nx (.slice a l.length ca)) 24)).alloc (.cells #[.int .i64 0, .int .i64 0, .int .i64 0, .string ⟨#[]⟩, .int .i64 0, .slice none 0 0] 45)) _ 45 (ndC zeroN) := Blk.new (w.alloc (.cells (fsC mi mb nx (.slice a l.length ca)) 24)) 45 (ndC zeroN)
  have hB0 : Below w.heap.size w ((w.alloc (.cells (fsC mi mb nx (.slice a l.length ca)) 24)).alloc (.cells #[.int .i64 0, .int .i64 0, .int .i64 0, .string ⟨#[]⟩, .int .i64 0, .slice none 0 0] 45)) := ((Below.refl _ w).alloc (Nat.le_refl _) _).alloc (by simp) _
  simp only [World.size_alloc] at bR
  have nV := hv.below hB0
  have hA := At_any mi mb nx l p _ _ nV hp hc
  have h1 := getP_err (l := l) (p := p)
  have h2 := getP_none (l := l) (p := p)
  have h3 := getP_some (l := l) (p := p)
  have HV := Lib.hid hv
  have HC := Lib.hid hc
  unfold LeadsIn at hin
  clear hv hc
  generalize atP l p = q at *
  obtain ⟨⟨sd, sn, si⟩, er⟩ := q
  dsimp only at hA h1 h2 h3 hin
  have H1 := Lib.hid h1
  have H2 := Lib.hid h2
  have H3 := Lib.hid h3
  have HI := Lib.hid hin
  clear h1 h2 h3 hin
  obtain ⟨⟨p0, p1, p2, p3⟩, _⟩ := bF.four
  go_enter Tryz.func94, Tryz.ntmps94
  go_wp2_with fail
  refine hA.mono ?_
  rintro e w1 ⟨rfl, b1⟩
  clear hA p0 p1 p2 p3
  have b2 := alloc_below w1 (.cells (spC ⟨sd, sn, si⟩) 37)
  have b3 := b1.trans (b2.mono b1.size)
  have hB := hB0.trans (b3.mono hB0.size)
  have bF2 := bF.next b3
  have bR2 := bR.next b3
  have bS := Blk.new w1 37 (spC ⟨sd, sn, si⟩)
  clear b1 b2 bF bR nV
  by_cases her : er = 0
  · subst her
    have hG := GetN_any mi mb nx si l _ _ (HV.out.below hB) HC.out.rise (by have := HC.out.len; omega) (calm_data HC.out)
    obtain ⟨ag, ng, cg, hgs⟩ := get_slice HV.out si
    have hhas := HI.out rfl
    have hnone := getN_none (l := l) (n := si)
    generalize getN l si = G at *
    generalize hasN l si = r at *
    obtain ⟨gi, gk, gl, gd, gp, ge, gn⟩ := G
    dsimp only at hgs
    subst hgs
    have HNO := Lib.hid hnone
    have HH := Lib.hid hhas
    clear hnone hhas
    obtain ⟨⟨p0, p1, p2, p3⟩, _⟩ := bF2.four
    obtain ⟨⟨s0, s1, s2⟩, _⟩ := bS.three
    dsimp only at s0 s1 s2
    go_wp2_with fail
    refine hG.mono ?_
    rintro e w4 ⟨rfl, b4⟩
    clear hG p0 p1 p2 p3 s0 s1 s2
    have b5 := alloc_below w4 (.cells (ndC ⟨gi, gk, gl, gd, gp, .slice ag ng cg, gn⟩) 45)
    have b6 := b4.trans (b5.mono b4.size)
    have hB6 := hB.trans (b6.mono hB.size)
    have bR6 := bR2.next b6
    have bX := Blk.new w4 45 (ndC ⟨gi, gk, gl, gd, gp, .slice ag ng cg, gn⟩)
    obtain ⟨⟨x0, x1, x2, x3, x4, x5⟩, _⟩ := bX.six
    dsimp only at x0 x1 x2 x3 x4 x5
    obtain ⟨⟨q0, q1, q2, q3, q4, q5⟩, e0, e1, e2, e3, e4, e5⟩ := bR6.six
    simp only [zeroN] at q0 q1 q2 q3 q4 q5
    by_cases hsi : si = 0
    · subst hsi
      obtain rfl : r = false := HH.out
      have HN := Lib.hid (H2.out (by simp) rfl)
      obtain ⟨W', hW', hb6, hg6⟩ := bR6.put6 zeroN
      have hbl := below_grown hB6 hg6 (Nat.le_refl _) (by omega)
      simp only [zeroN] at hW'
      clear H1 H2 H3 HI HNO HH
      go_wp2
      obtain ⟨⟨r0, r1, r2, r3, r4, r5⟩, _⟩ := hb6.six
      refine bodyPost_ret (v := .tuple #[.agg (ndC zeroN), .int .i64 1]) (by simp [results, Tryz.f94, go_sem, r0, r1, r2, r3, r4, r5, zeroN]) rfl ?_
      exact ⟨by rw [HN.out], hbl⟩
    · have HN := Lib.hid (H3.out (by simp) hsi)
      obtain rfl : r = true := by have := HH.out; rwa [decide_eq_true hsi] at this
      obtain ⟨W', hW', hb6, hg6⟩ := bR6.put6 ⟨gi, gk, gl, gd, gp, .slice ag ng cg, gn⟩
      have hbl := below_grown hB6 hg6 (Nat.le_refl _) (by omega)
      dsimp only at hW'
      clear H1 H2 H3 HI HNO HH
      go_wp2
      obtain ⟨⟨r0, r1, r2, r3, r4, r5⟩, _⟩ := hb6.six
      refine bodyPost_ret (v := .tuple #[.agg (ndC ⟨gi, gk, gl, gd, gp, .slice ag ng cg, gn⟩), .int .i64 0]) (by simp [results, Tryz.f94, go_sem, r0, r1, r2, r3, r4, r5]) rfl ?_
      exact ⟨by rw [HN.out], hbl⟩
  · have HN := Lib.hid (H1.out her)
    obtain ⟨⟨q0, q1, q2, q3, q4, q5⟩, e0, e1, e2, e3, e4, e5⟩ := bR2.six
    simp only [zeroN] at q0 q1 q2 q3 q4 q5
    obtain ⟨W', hW', hb6, hg6⟩ := bR2.put6 zeroN
    have hbl := below_grown hB hg6 (Nat.le_refl _) (by omega)
    simp only [zeroN] at hW'
    clear H1 H2 H3
    go_wp2
    obtain ⟨⟨r0, r1, r2, r3, r4, r5⟩, _⟩ := hb6.six
    refine bodyPost_ret (v := .tuple #[.agg (ndC zeroN), .int .i64 er]) (by simp [results, Tryz.f94, go_sem, r0, r1, r2, r3, r4, r5, zeroN]) rfl ?_
    exact ⟨by rw [HN.out], hbl⟩
end Go.Proofs.YtobepdmpacdakaaGreat
