/- Walks: the program's way, its smaller parts: where one stands, one step, the end. -/
import Derived.Test.YtobepdmpacdakaaGreatQWalkQ09
import Derived.Test.YtobepdmpacdakaaGreatQWalkA10
import Derived.RegionTactic
import Derived.ChangeAlike
set_option linter.unusedVariables false
set_option linter.unusedSimpArgs false
namespace Go.Proofs.YtobepdmpacdakaaGreat
open Go.RowKit

set_option maxHeartbeats 4000000 in
theorem stand_any (mi mb nx i : Int) (l : List Nd) (v : Value) (w : World) (hv : Nds w v l) (hc : Calm l) :
    Calls Tryz.prog 95 #[.agg (fsC mi mb nx v), .int .i64 i] w fun e w' => e = .returned (.tuple #[.agg (spC ⟨0, [], i⟩), .agg (ndC (getN l i))]) ∧ Below w.heap.size w w' := by
  obtain ⟨a, ca, rfl⟩ := nds_slice hv
  have bF := ((Blk.new w 24 (fsC mi mb nx (.slice a l.length ca))).alloc (.cells (spC zeroS) 37)).alloc (.cells #[.int .i64 0, .int .i64 0, .int .i64 0, .string ⟨#[]⟩, .int .i64 0, .slice none 0 0] 45)
  have bR := (Blk.new (w.alloc (.cells (fsC mi mb nx (.slice a l.length ca)) 24)) 37 (spC zeroS)).alloc (.cells #[.int .i64 0, .int .i64 0, .int .i64 0, .string ⟨#[]⟩, .int .i64 0, .slice none 0 0] 45)
  have bQ : Blk (((w.alloc (.cells (fsC mi mb nx (.slice a l.length ca)) 24)).alloc (.cells (spC zeroS) 37)).alloc (.cells #[.int .i64 0, .int .i64 0, .int .i64 0, .string ⟨#[]⟩, .int .i64 0, .slice none 0 0] 45)) _ 45 (ndC zeroN) := Blk.new ((w.alloc (.cells (fsC mi mb nx (.slice a l.length ca)) 24)).alloc (.cells (spC zeroS) 37)) 45 (ndC zeroN)
  have hB := (((Below.refl w.heap.size w).alloc (Nat.le_refl _) (.cells (fsC mi mb nx (.slice a l.length ca)) 24)).alloc (by simp) (.cells (spC zeroS) 37)).alloc (by simp; omega) (.cells #[.int .i64 0, .int .i64 0, .int .i64 0, .string ⟨#[]⟩, .int .i64 0, .slice none 0 0] 45)
  simp only [World.size_alloc] at bR bQ
  have nV := hv.below hB
  have hG := GetN_any mi mb nx i l _ _ nV hc.rise (by have := hc.len; omega) (calm_data hc)
  obtain ⟨ag, ng, cg, hgs⟩ := get_slice hv i
  generalize getN l i = G at *
  generalize hasN l i = r at *
  obtain ⟨gi, gk, gl, gd, gp, ge, gn⟩ := G
  dsimp only at hgs
  subst hgs
  clear hv hc nV
  obtain ⟨⟨p0, p1, p2, p3⟩, _⟩ := bF.four
  go_enter Tryz.func95, Tryz.ntmps95
  go_wp2_with fail
  refine hG.mono ?_
  rintro e w1 ⟨rfl, b1⟩
  clear hG p0 p1 p2 p3
  have b2 := alloc_below w1 (.cells (ndC ⟨gi, gk, gl, gd, gp, .slice ag ng cg, gn⟩) 45)
  have b3 := b1.trans (b2.mono b1.size)
  have hB2 := hB.trans (b3.mono hB.size)
  have bR2 := bR.next b3
  have bQ2 := bQ.next b3
  have bX := Blk.new w1 45 (ndC ⟨gi, gk, gl, gd, gp, .slice ag ng cg, gn⟩)
  obtain ⟨⟨r0, r1, r2⟩, e0, e1, e2⟩ := bR2.three
  obtain ⟨⟨q0, q1, q2, q3, q4, q5⟩, f0, f1, f2, f3, f4, f5⟩ := bQ2.six
  obtain ⟨⟨x0, x1, x2, x3, x4, x5⟩, _⟩ := bX.six
  have hl1 : w.heap.size + 3 ≤ w1.heap.size := by have := b1.size; simp at this; omega
  dsimp only at x0 x1 x2 x3 x4 x5
  obtain ⟨W1, hW1, hb3, hg3⟩ := bR2.put3 (.int .i64 0) (.string ⟨#[]⟩) (.int .i64 i)
  have bQ3 := bQ2.kept hg3 (by simp)
  obtain ⟨W2, hW2, hb6, hg6⟩ := bQ3.put6 ⟨gi, gk, gl, gd, gp, .slice ag ng cg, gn⟩
  have hR3 := hb3.kept hg6 (by simp)
  have hbl := below_grown (below_grown hB2 hg3 (Nat.le_refl _) (by omega)) hg6 (Nat.le_refl _) (by omega)
  dsimp only at hW2
  obtain ⟨⟨y0, y1, y2, y3, y4, y5⟩, _⟩ := (bX.kept hg3 (by simp; omega)).six
  obtain ⟨⟨z0, z1, z2, z3, z4, z5⟩, g0, g1, g2, g3, g4, g5⟩ := bQ3.six
  dsimp only at y0 y1 y2 y3 y4 y5
  simp only [zeroN] at q0 q1 q2 q3 q4 q5 z0 z1 z2 z3 z4 z5
  go_upto_region 2 with fail
  go_region
  go_wp2
  have hd := (Below.refl W2.heap.size W2).drew
  obtain ⟨⟨t0, t1, t2⟩, _⟩ := (hR3.next hd).three
  obtain ⟨⟨u0, u1, u2, u3, u4, u5⟩, _⟩ := (hb6.next hd).six
  dsimp only at u0 u1 u2 u3 u4 u5
  refine bodyPost_ret (v := .tuple #[.agg (spC ⟨0, [], i⟩), .agg (ndC ⟨gi, gk, gl, gd, gp, .slice ag ng cg, gn⟩)]) (by simp [results, Tryz.f95, go_sem, t0, t1, t2, u0, u1, u2, u3, u4, u5]) rfl ?_
  exact ⟨rfl, hbl.drew⟩

def stepP (x : Nd) (n : List UInt8) : Sp := if n = [46] then ⟨0, [], x.ino⟩ else if n = [46, 46] then ⟨0, [], x.parent⟩ else ⟨x.ino, n, numB x.ents n⟩

set_option maxHeartbeats 8000000 in
theorem step_any (mi mb nx : Int) (l : List Nd) (x : Nd) (n : List UInt8) (v : Value) (w : World) (hv : Nds w v l) (hc : Calm l) (hE : Ents w x.ev x.ents) (hr : rightB x.ents = true) (hlen : x.ents.length ≤ 1000) (ax : Option Addr) (nn cx : Nat) (hev : x.ev = .slice ax nn cx) :
    Calls Tryz.prog 96 #[.agg (fsC mi mb nx v), .agg (ndC x), .string ⟨n.toArray⟩] w fun e w' => e = .returned (.tuple #[.agg (spC (stepP x n)), .agg (ndC (getN l (stepP x n).ino))]) ∧ Below w.heap.size w w' := by
  obtain ⟨xi, xk, xl, xd, xp, xe, xn⟩ := x
  dsimp only at hE hr hlen hev
  subst hev
  obtain ⟨a, ca, rfl⟩ := nds_slice hv
  have A0 := alloc_below w (.cells (fsC mi mb nx (.slice a l.length ca)) 24)
  have bF0 := Blk.new w 24 (fsC mi mb nx (.slice a l.length ca))
  have A1 := alloc_below (w.alloc (.cells (fsC mi mb nx (.slice a l.length ca)) 24)) (.cells (ndC ⟨xi, xk, xl, xd, xp, .slice ax nn cx, xn⟩) 45)
  have bD0 := Blk.new (w.alloc (.cells (fsC mi mb nx (.slice a l.length ca)) 24)) 45 (ndC ⟨xi, xk, xl, xd, xp, .slice ax nn cx, xn⟩)
  have bF1 := bF0.next A1
  have A2 := alloc_below ((w.alloc (.cells (fsC mi mb nx (.slice a l.length ca)) 24)).alloc (.cells (ndC ⟨xi, xk, xl, xd, xp, .slice ax nn cx, xn⟩) 45)) (.cells (spC zeroS) 37)
  have bR0 := Blk.new ((w.alloc (.cells (fsC mi mb nx (.slice a l.length ca)) 24)).alloc (.cells (ndC ⟨xi, xk, xl, xd, xp, .slice ax nn cx, xn⟩) 45)) 37 (spC zeroS)
  have bF2 := bF1.next A2
  have bD2 := bD0.next A2
  have A3 := alloc_below (((w.alloc (.cells (fsC mi mb nx (.slice a l.length ca)) 24)).alloc (.cells (ndC ⟨xi, xk, xl, xd, xp, .slice ax nn cx, xn⟩) 45)).alloc (.cells (spC zeroS) 37)) (.cells #[.int .i64 0, .int .i64 0, .int .i64 0, .string ⟨#[]⟩, .int .i64 0, .slice none 0 0] 45)
  have bQ : Blk ((((w.alloc (.cells (fsC mi mb nx (.slice a l.length ca)) 24)).alloc (.cells (ndC ⟨xi, xk, xl, xd, xp, .slice ax nn cx, xn⟩) 45)).alloc (.cells (spC zeroS) 37)).alloc (.cells #[.int .i64 0, .int .i64 0, .int .i64 0, .string ⟨#[]⟩, .int .i64 0, .slice none 0 0] 45)) _ 45 (ndC zeroN) := Blk.new (((w.alloc (.cells (fsC mi mb nx (.slice a l.length ca)) 24)).alloc (.cells (ndC ⟨xi, xk, xl, xd, xp, .slice ax nn cx, xn⟩) 45)).alloc (.cells (spC zeroS) 37)) 45 (ndC zeroN)
  have bF := bF2.next A3
  have bD := bD2.next A3
  have bR := bR0.next A3
  have A01 := A0.trans (A1.mono A0.size)
  have A012 := A01.trans (A2.mono A01.size)
  have hB := A012.trans (A3.mono A012.size)
  clear A0 A1 A2 A3 A01 A012 bF0 bF1 bF2 bD0 bD2 bR0
  simp only [World.size_alloc] at bR bQ bD
  have nV := hv.below hB
  have nE := hE.below hB
  have HV := Lib.hid hv
  have HE := Lib.hid hE
  have HC := Lib.hid hc
  clear hv hE hc
  obtain ⟨⟨p0, p1, p2, p3⟩, _⟩ := bF.four
  obtain ⟨⟨d0, d1, d2, d3, d4, d5⟩, _⟩ := bD.six
  dsimp only at d0 d1 d2 d3 d4 d5
  by_cases h1 : n = [46]
  · subst h1
    have hS := stand_any mi mb nx xi l _ _ nV HC.out
    rw [show stepP ⟨xi, xk, xl, xd, xp, .slice ax nn cx, xn⟩ [46] = ⟨0, [], xi⟩ from rfl]
    dsimp only
    obtain ⟨ag, ng, cg, hgs⟩ := get_slice HV.out xi
    generalize getN l xi = G at *
    obtain ⟨gi, gk, gl, gd, gp, ge, gn⟩ := G
    dsimp only at hgs
    subst hgs
    go_enter Tryz.func96, Tryz.ntmps96
    go_wp2_with fail
    refine hS.mono ?_
    rintro e w1 ⟨rfl, b1⟩
    clear hS p0 p1 p2 p3 d0 d1 d2 d3 d4 d5
    (have bR2 := bR.next b1; have bQ2 := bQ.next b1; have hB2 := hB.trans (b1.mono hB.size); obtain ⟨⟨r0, r1, r2⟩, e0, e1, e2⟩ := bR2.three; obtain ⟨W1, hW1, hb3, hg3⟩ := bR2.put3 (.int .i64 0) (.string ⟨#[]⟩) (.int .i64 xi); have bQ3 := bQ2.kept hg3 (by simp); obtain ⟨⟨z0, z1, z2, z3, z4, z5⟩, g0, g1, g2, g3, g4, g5⟩ := bQ3.six; simp only [zeroN] at z0 z1 z2 z3 z4 z5; obtain ⟨W2, hW2, hb6, hg6⟩ := bQ3.put6 ⟨gi, gk, gl, gd, gp, .slice ag ng cg, gn⟩; have hR3 := hb3.kept hg6 (by simp); have hbl := below_grown (below_grown hB2 hg3 (Nat.le_refl _) (by omega)) hg6 (Nat.le_refl _) (by omega); dsimp only at hW2; go_wp2; obtain ⟨⟨t0, t1, t2⟩, _⟩ := hR3.three; obtain ⟨⟨u0, u1, u2, u3, u4, u5⟩, _⟩ := hb6.six; dsimp only at u0 u1 u2 u3 u4 u5; refine bodyPost_ret (v := .tuple #[.agg (spC ⟨0, [], xi⟩), .agg (ndC ⟨gi, gk, gl, gd, gp, .slice ag ng cg, gn⟩)]) (by simp [results, Tryz.f96, go_sem, t0, t1, t2, u0, u1, u2, u3, u4, u5]) rfl ?_; exact ⟨rfl, hbl⟩)
  · by_cases h2 : n = [46, 46]
    · subst h2
      have hS := stand_any mi mb nx xp l _ _ nV HC.out
      rw [show stepP ⟨xi, xk, xl, xd, xp, .slice ax nn cx, xn⟩ [46, 46] = ⟨0, [], xp⟩ from rfl]
      dsimp only
      obtain ⟨ag, ng, cg, hgs⟩ := get_slice HV.out xp
      generalize getN l xp = G at *
      obtain ⟨gi, gk, gl, gd, gp, ge, gn⟩ := G
      dsimp only at hgs
      subst hgs
      go_enter Tryz.func96, Tryz.ntmps96
      go_wp2_with fail
      refine hS.mono ?_
      rintro e w1 ⟨rfl, b1⟩
      clear hS p0 p1 p2 p3 d0 d1 d2 d3 d4 d5
      (have bR2 := bR.next b1; have bQ2 := bQ.next b1; have hB2 := hB.trans (b1.mono hB.size); obtain ⟨⟨r0, r1, r2⟩, e0, e1, e2⟩ := bR2.three; obtain ⟨W1, hW1, hb3, hg3⟩ := bR2.put3 (.int .i64 0) (.string ⟨#[]⟩) (.int .i64 xp); have bQ3 := bQ2.kept hg3 (by simp); obtain ⟨⟨z0, z1, z2, z3, z4, z5⟩, g0, g1, g2, g3, g4, g5⟩ := bQ3.six; simp only [zeroN] at z0 z1 z2 z3 z4 z5; obtain ⟨W2, hW2, hb6, hg6⟩ := bQ3.put6 ⟨gi, gk, gl, gd, gp, .slice ag ng cg, gn⟩; have hR3 := hb3.kept hg6 (by simp); have hbl := below_grown (below_grown hB2 hg3 (Nat.le_refl _) (by omega)) hg6 (Nat.le_refl _) (by omega); dsimp only at hW2; go_wp2; obtain ⟨⟨t0, t1, t2⟩, _⟩ := hR3.three; obtain ⟨⟨u0, u1, u2, u3, u4, u5⟩, _⟩ := hb6.six; dsimp only at u0 u1 u2 u3 u4 u5; refine bodyPost_ret (v := .tuple #[.agg (spC ⟨0, [], xp⟩), .agg (ndC ⟨gi, gk, gl, gd, gp, .slice ag ng cg, gn⟩)]) (by simp [results, Tryz.f96, go_sem, t0, t1, t2, u0, u1, u2, u3, u4, u5]) rfl ?_; exact ⟨rfl, hbl⟩)
    · have H1 : (n == [46]) = false := by simpa using h1
      have H2 : (n == [46, 46]) = false := by simpa using h2
      have HP : Hid (stepP ⟨xi, xk, xl, xd, xp, .slice ax nn cx, xn⟩ n = ⟨xi, n, numB xn n⟩) := by (show _ = _); unfold stepP; rw [if_neg h1, if_neg h2]
      have HP' : Hid (numB xn n = numB xn n) := rfl
      rw [HP.out]
      dsimp only
      have hSo := ((rightB_iff _).1 hr).2
      clear h1 h2 HP HP' hr
      have hFi := Find_any xn n _ _ nE hSo (by omega)
      have HG := Lib.hid (fun W (h : Nds W (.slice a l.length ca) l) => GetN_any mi mb nx (numB xn n) l _ W h HC.out.rise (by have := HC.out.len; omega) (calm_data HC.out))
      obtain ⟨ag, ng, cg, hgs⟩ := get_slice HV.out (numB xn n)
      generalize numB xn n = j at *
      generalize hasB xn n = jb at *
      generalize getN l j = G at *
      generalize hasN l j = r at *
      obtain ⟨gi, gk, gl, gd, gp, ge, gn⟩ := G
      dsimp only at hgs
      subst hgs
      go_enter Tryz.func96, Tryz.ntmps96
      go_wp2_with fail
      refine hFi.mono ?_
      rintro e w1 ⟨rfl, b1⟩
      clear nE hSo hFi p0 p1 p2 p3 d0 d1 d2 d3 d4 d5
      replace bF := bF.next b1
      replace bD := bD.next b1
      replace bR := bR.next b1
      replace bQ := bQ.next b1
      replace hB := hB.trans (b1.mono hB.size)
      have hl1 : w.heap.size + 4 ≤ w1.heap.size := by have := b1.size; simp at this; omega
      clear b1 nV
      have hG := HG.out _ (HV.out.below hB)
      clear HG
      obtain ⟨⟨p0, p1, p2, p3⟩, _⟩ := bF.four
      go_wp2_with fail
      refine hG.mono ?_
      rintro e w2 ⟨rfl, b2⟩
      clear hG p0 p1 p2 p3
      have b3 := alloc_below w2 (.cells (ndC ⟨gi, gk, gl, gd, gp, .slice ag ng cg, gn⟩) 45)
      have b4 := b2.trans (b3.mono b2.size)
      have hB2 := hB.trans (b4.mono hB.size)
      have bD2 := bD.next b4
      have bR2 := bR.next b4
      have bQ2 := bQ.next b4
      have bX := Blk.new w2 45 (ndC ⟨gi, gk, gl, gd, gp, .slice ag ng cg, gn⟩)
      have hl2 : w.heap.size + 4 ≤ w2.heap.size := Nat.le_trans hl1 b2.size
      clear b2 b3 b4 bF bD bR bQ hB
      obtain ⟨⟨d0, d1, d2, d3, d4, d5⟩, _⟩ := bD2.six
      dsimp only at d0 d1 d2 d3 d4 d5
      obtain ⟨⟨r0, r1, r2⟩, e0, e1, e2⟩ := bR2.three
      obtain ⟨⟨q0, q1, q2, q3, q4, q5⟩, f0, f1, f2, f3, f4, f5⟩ := bQ2.six
      obtain ⟨⟨x0, x1, x2, x3, x4, x5⟩, _⟩ := bX.six
      dsimp only at x0 x1 x2 x3 x4 x5
      obtain ⟨W1, hW1, hb3, hg3⟩ := bR2.put3 (.int .i64 xi) (.string ⟨n.toArray⟩) (.int .i64 j)
      have bQ3 := bQ2.kept hg3 (by simp)
      obtain ⟨W2, hW2, hb6, hg6⟩ := bQ3.put6 ⟨gi, gk, gl, gd, gp, .slice ag ng cg, gn⟩
      have hR3 := hb3.kept hg6 (by simp)
      have hbl := below_grown (below_grown hB2 hg3 (Nat.le_refl _) (by omega)) hg6 (Nat.le_refl _) (by omega)
      dsimp only at hW2
      obtain ⟨⟨y0, y1, y2, y3, y4, y5⟩, _⟩ := (bX.kept hg3 (by simp; omega)).six
      obtain ⟨⟨z0, z1, z2, z3, z4, z5⟩, g0, g1, g2, g3, g4, g5⟩ := bQ3.six
      dsimp only at y0 y1 y2 y3 y4 y5
      simp only [zeroN] at q0 q1 q2 q3 q4 q5 z0 z1 z2 z3 z4 z5
      go_upto_region 8 with fail
      go_region
      go_wp2
      have hd := (Below.refl W2.heap.size W2).drew
      obtain ⟨⟨t0, t1, t2⟩, _⟩ := (hR3.next hd).three
      obtain ⟨⟨u0, u1, u2, u3, u4, u5⟩, _⟩ := (hb6.next hd).six
      dsimp only at u0 u1 u2 u3 u4 u5
      refine bodyPost_ret (v := .tuple #[.agg (spC ⟨xi, n, j⟩), .agg (ndC ⟨gi, gk, gl, gd, gp, .slice ag ng cg, gn⟩)]) (by simp [results, Tryz.f96, go_sem, t0, t1, t2, u0, u1, u2, u3, u4, u5]) rfl ?_
      exact ⟨rfl, hbl.drew⟩
end Go.Proofs.YtobepdmpacdakaaGreat
