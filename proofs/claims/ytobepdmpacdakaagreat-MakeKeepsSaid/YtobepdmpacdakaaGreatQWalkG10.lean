/- Walks: the program's Home, and the end of the way. -/
import Derived.Test.YtobepdmpacdakaaGreatQWalkF10
set_option linter.unusedVariables false
set_option linter.unusedSimpArgs false
namespace Go.Proofs.YtobepdmpacdakaaGreat
open Go.RowKit

set_option maxHeartbeats 4000000 in
theorem HomeC_any (mi mb nx : Int) (l : List Nd) (p : List UInt8) (v : Value) (w : World) (hv : Nds w v l) (hp : p.length ≤ 50000) (hc : Calm l) (hin : LeadsIn l p) :
    Calls Tryz.prog 78 #[.agg (fsC mi mb nx v), .string ⟨p.toArray⟩] w fun e w' => e = .returned (.tuple #[.int .i64 (homeP l p).1, .int .i64 (homeP l p).2]) ∧ Below w.heap.size w w' := by
  obtain ⟨a, ca, rfl⟩ := nds_slice hv
  have bF := Blk.new w 24 (fsC mi mb nx (.slice a l.length ca))
  have hB := alloc_below w (.cells (fsC mi mb nx (.slice a l.length ca)) 24)
  have hG := GetP_any mi mb nx l p _ _ (hv.below hB) hp hc hin
  have h1 := home_err (l := l) (p := p)
  have h2 := home_file (l := l) (p := p)
  have h3 := home_some (l := l) (p := p)
  obtain ⟨ag, ng, cg, hgs⟩ := get_slice0 hv p
  generalize getP l p = G at *
  obtain ⟨⟨gi, gk, gl, gd, gp, ge, gn⟩, er⟩ := G
  dsimp only at hG h1 h2 h3 hgs
  subst hgs
  have H1 := Lib.hid h1
  have H2 := Lib.hid h2
  have H3 := Lib.hid h3
  clear h1 h2 h3 hv hc hin
  obtain ⟨⟨p0, p1, p2, p3⟩, _⟩ := bF.four
  go_enter Tryz.func78, Tryz.ntmps78
  go_wp2_with fail
  refine hG.mono ?_
  rintro e w1 ⟨rfl, b1⟩
  clear hG p0 p1 p2 p3
  have b2 := alloc_below w1 (.cells (ndC ⟨gi, gk, gl, gd, gp, .slice ag ng cg, gn⟩) 45)
  have bX := Blk.new w1 45 (ndC ⟨gi, gk, gl, gd, gp, .slice ag ng cg, gn⟩)
  have hB2 := (hB.trans (b1.mono hB.size)).trans (b2.mono (hB.trans (b1.mono hB.size)).size)
  obtain ⟨⟨x0, x1, x2, x3, x4, x5⟩, _⟩ := bX.six
  dsimp only at x0 x1 x2 x3 x4 x5
  clear b1 b2 hB bF bX
  by_cases her : er = 0
  · subst her
    by_cases hk : gk = 2
    · have HN := Lib.hid (H3.out rfl hk)
      subst hk
      clear H1 H2 H3
      go_wp2
      go_ret2
      exact ⟨by rw [HN.out]; rfl, hB2⟩
    · have HN := Lib.hid (H2.out rfl hk)
      clear H1 H2 H3
      go_wp2
      go_ret2
      exact ⟨by rw [HN.out]; rfl, hB2⟩
  · have HN := Lib.hid (H1.out her)
    clear H1 H2 H3
    go_wp2
    go_ret2
    exact ⟨by rw [HN.out]; rfl, hB2⟩


/-- Where the way ended, if it may end there. -/
def endP (s : Sp) (k : Int) (d : Bool) : Sp × Int := if d = true ∧ s.ino ≠ 0 ∧ k ≠ 2 then (zeroS, 3) else (s, 0)

set_option maxHeartbeats 4000000 in
theorem ended_any (s : Sp) (x : Nd) (d : Bool) (w : World) (ax : Option Addr) (nn cx : Nat) (hev : x.ev = .slice ax nn cx) :
    Calls Tryz.prog 98 #[.agg (spC s), .agg (ndC x), .bool d] w fun e w' => e = .returned (.tuple #[.agg (spC (endP s x.kind d).1), .int .i64 (endP s x.kind d).2]) ∧ Below w.heap.size w w' := by
  obtain ⟨sd, sn, si⟩ := s
  obtain ⟨xi, xk, xl, xd, xp, xe, xn⟩ := x
  dsimp only at hev
  subst hev
  have A0 := alloc_below w (.cells (spC ⟨sd, sn, si⟩) 37)
  have bS0 := Blk.new w 37 (spC ⟨sd, sn, si⟩)
  have A1 := alloc_below (w.alloc (.cells (spC ⟨sd, sn, si⟩) 37)) (.cells (ndC ⟨xi, xk, xl, xd, xp, .slice ax nn cx, xn⟩) 45)
  have bX0 := Blk.new (w.alloc (.cells (spC ⟨sd, sn, si⟩) 37)) 45 (ndC ⟨xi, xk, xl, xd, xp, .slice ax nn cx, xn⟩)
  have bS1 := bS0.next A1
  have A2 := alloc_below ((w.alloc (.cells (spC ⟨sd, sn, si⟩) 37)).alloc (.cells (ndC ⟨xi, xk, xl, xd, xp, .slice ax nn cx, xn⟩) 45)) (.cells (spC zeroS) 37)
  have bR := Blk.new ((w.alloc (.cells (spC ⟨sd, sn, si⟩) 37)).alloc (.cells (ndC ⟨xi, xk, xl, xd, xp, .slice ax nn cx, xn⟩) 45)) 37 (spC zeroS)
  have bS := bS1.next A2
  have bX := bX0.next A2
  have A01 := A0.trans (A1.mono A0.size)
  have hB := A01.trans (A2.mono A01.size)
  have hBs := A01.trans ((alloc_below ((w.alloc (.cells (spC ⟨sd, sn, si⟩) 37)).alloc (.cells (ndC ⟨xi, xk, xl, xd, xp, .slice ax nn cx, xn⟩) 45)) (.cells (spC ⟨sd, sn, si⟩) 37)).mono A01.size)
  have bRs := Blk.new ((w.alloc (.cells (spC ⟨sd, sn, si⟩) 37)).alloc (.cells (ndC ⟨xi, xk, xl, xd, xp, .slice ax nn cx, xn⟩) 45)) 37 (spC ⟨sd, sn, si⟩)
  clear A0 A1 A2 A01 bS0 bS1 bX0
  simp only [World.size_alloc] at bR bX bRs
  obtain ⟨⟨s0, s1, s2⟩, _⟩ := bS.three
  dsimp only at s0 s1 s2
  obtain ⟨⟨x0, x1, x2, x3, x4, x5⟩, _⟩ := bX.six
  dsimp only at x0 x1 x2 x3 x4 x5
  obtain ⟨⟨r0, r1, r2⟩, e0, e1, e2⟩ := bR.three
  by_cases hbad : d = true ∧ si ≠ 0 ∧ xk ≠ 2
  · have HN : Hid (endP ⟨sd, sn, si⟩ xk d = (zeroS, 3)) := by (show _ = _); unfold endP; rw [if_pos hbad]
    obtain ⟨rfl, h1, h2⟩ := hbad
    have g1 : (si != 0) = true := by simpa using h1
    have g2 : (xk != 2) = true := by simpa using h2
    clear h1 h2
    go_enter Tryz.func98, Tryz.ntmps98
    go_wp2
    refine bodyPost_ret (v := .tuple #[.agg #[.int .i64 0, .string ⟨#[]⟩, .int .i64 0], .int .i64 3]) (by simp [results, Tryz.f98, go_sem, r0, r1, r2]) rfl ?_
    exact ⟨by rw [HN.out], hB⟩
  · have HN : Hid (endP ⟨sd, sn, si⟩ xk d = (⟨sd, sn, si⟩, 0)) := by (show _ = _); unfold endP; rw [if_neg hbad]
    have hbl := hBs
    have hb3 := bRs
    cases d
    · clear hbad
      go_enter Tryz.func98, Tryz.ntmps98
      go_wp2
      obtain ⟨⟨t0, t1, t2⟩, _⟩ := hb3.three
      refine bodyPost_ret (v := .tuple #[.agg (spC ⟨sd, sn, si⟩), .int .i64 0]) (by simp [results, Tryz.f98, go_sem, t0, t1, t2]) rfl ?_
      exact ⟨by rw [HN.out], hbl⟩
    · by_cases h0 : si = 0
      · subst h0
        clear hbad
        go_enter Tryz.func98, Tryz.ntmps98
        go_wp2
        obtain ⟨⟨t0, t1, t2⟩, _⟩ := hb3.three
        refine bodyPost_ret (v := .tuple #[.agg (spC ⟨sd, sn, 0⟩), .int .i64 0]) (by simp [results, Tryz.f98, go_sem, t0, t1, t2]) rfl ?_
        exact ⟨by rw [HN.out], hbl⟩
      · obtain rfl : xk = 2 := Decidable.byContradiction fun h => hbad ⟨rfl, h0, h⟩
        clear hbad
        go_enter Tryz.func98, Tryz.ntmps98
        go_wp2
        obtain ⟨⟨t0, t1, t2⟩, _⟩ := hb3.three
        refine bodyPost_ret (v := .tuple #[.agg (spC ⟨sd, sn, si⟩), .int .i64 0]) (by simp [results, Tryz.f98, go_sem, t0, t1, t2]) rfl ?_
        exact ⟨by rw [HN.out], hbl⟩
end Go.Proofs.YtobepdmpacdakaaGreat
