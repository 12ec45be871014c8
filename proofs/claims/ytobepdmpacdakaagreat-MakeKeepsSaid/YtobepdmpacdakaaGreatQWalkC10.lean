/- Walks: the document's way on: nothing left to go; one name. -/
import Derived.Test.YtobepdmpacdakaaGreatQWalkB10
import Derived.Deep.RegionHeld3
import Derived.Deep.Cut
import Derived.Deep.CutRange
set_option linter.unusedVariables false
set_option linter.unusedSimpArgs false
namespace Go.Proofs.YtobepdmpacdakaaGreat
open Go.RowKit

/-- What 'on' answers. -/
def OnC (mi mb nx : Int) (l : List Nd) (v : Value) (fo : Bool) (g : Nat) (todo : List (List UInt8)) : Prop :=
  ∀ (s : Sp) (dir : Bool) (lo : Int) (vt : Value) (w : World), lo = 40 - (g : Int) → Nds w v l → StrsC w vt todo →
    Calls Tryz.prog 38 #[.agg (fsC mi mb nx v), .agg (spC s), vt, .bool fo, .bool dir, .int .i64 lo] w fun e w' =>
      e = .returned (.tuple #[.agg (spC (onN l fo g s todo dir).1), .int .i64 (onN l fo g s todo dir).2]) ∧ Below w.heap.size w w'

set_option maxHeartbeats 8000000 in
set_option maxRecDepth 100000 in
theorem refOn_nil (mi mb nx : Int) (l : List Nd) (v : Value) (fo : Bool) (g : Nat) : OnC mi mb nx l v fo g [] := by
  intro s dir lo vt w hlo hv hst
  obtain ⟨a, ca, rfl⟩ := nds_slice hv
  obtain ⟨at_, ct, rfl⟩ := strs_nil hst
  have bF := ((Blk.new w 24 (fsC mi mb nx (.slice a l.length ca))).alloc (.cells (spC s) 37)).alloc (.cells (spC zeroS) 37)
  have bS := (Blk.new (w.alloc (.cells (fsC mi mb nx (.slice a l.length ca)) 24)) 37 (spC s)).alloc (.cells (spC zeroS) 37)
  have bR := Blk.new ((w.alloc (.cells (fsC mi mb nx (.slice a l.length ca)) 24)).alloc (.cells (spC s) 37)) 37 (spC zeroS)
  have hB0 : Below w.heap.size w (((w.alloc (.cells (fsC mi mb nx (.slice a l.length ca)) 24)).alloc (.cells (spC s) 37)).alloc (.cells (spC zeroS) 37)) := (((Below.refl _ w).alloc (Nat.le_refl _) _).alloc (by simp) _).alloc (by simp; omega) _
  simp only [World.size_alloc] at bS bR
  have hG := refGetT_any mi mb nx s.ino l _ _ (hv.below hB0)
  have hon := on_nil l fo g s dir
  obtain ⟨ag, ng, cg, hgs⟩ := get_slice hv s.ino
  generalize getN l s.ino = G at *
  generalize hasN l s.ino = r at *
  generalize onN l fo g s [] dir = Q at *
  obtain ⟨gi, gk, gl, gd, gp, ge, gn⟩ := G
  obtain ⟨sd, sn, si⟩ := s
  dsimp only at hgs hon hG bF bS hB0
  subst hgs
  have HON := Lib.hid hon
  clear hon hv hst
  obtain ⟨⟨p0, p1, p2, p3⟩, _⟩ := bF.four
  obtain ⟨⟨s0, s1, s2⟩, _⟩ := bS.three
  dsimp only at s0 s1 s2
  go_enter Tryz.func38, Tryz.ntmps38
  go_wp2_with fail
  refine hG.mono ?_
  rintro e w1 ⟨rfl, b1⟩
  clear hG p0 p1 p2 p3 s0 s1 s2
  have b2 := alloc_below w1 (.cells (ndC ⟨gi, gk, gl, gd, gp, .slice ag ng cg, gn⟩) 45)
  have b3 := b1.trans (b2.mono b1.size)
  have bX := Blk.new w1 45 (ndC ⟨gi, gk, gl, gd, gp, .slice ag ng cg, gn⟩)
  have hB := hB0.trans (b3.mono hB0.size)
  have bR2 := bR.next b3
  have bS2 := bS.next b3
  obtain ⟨⟨x0, x1, x2, x3, x4, x5⟩, _⟩ := bX.six
  obtain ⟨⟨s0, s1, s2⟩, _⟩ := bS2.three
  obtain ⟨⟨r0, r1, r2⟩, e0, e1, e2⟩ := bR2.three
  dsimp only at x0 x1 x2 x3 x4 x5 s0 s1 s2
  clear b1 b2 b3 hB0 bF bS bR bX
  cases hc : (r && dir && gk != 2)
  · have HN : Hid (Q = (⟨sd, sn, si⟩, 0)) := by (show _ = _); rw [HON.out, hc]; rfl
    obtain ⟨W', hW', hb3, hg3⟩ := bR2.put3 (.int .i64 sd) (.string ⟨sn.toArray⟩) (.int .i64 si)
    have hbl := below_grown hB hg3 (Nat.le_refl _) (by omega)
    clear HON
    cases r
    · go_wp2
      obtain ⟨⟨y0, y1, y2⟩, _⟩ := hb3.three
      refine bodyPost_ret (v := .tuple #[.agg #[.int .i64 sd, .string ⟨sn.toArray⟩, .int .i64 si], .int .i64 0]) (by simp [results, Tryz.f38, go_sem, y0, y1, y2]) rfl ?_
      exact ⟨by rw [HN.out], hbl⟩
    · cases dir
      · go_wp2
        obtain ⟨⟨y0, y1, y2⟩, _⟩ := hb3.three
        refine bodyPost_ret (v := .tuple #[.agg #[.int .i64 sd, .string ⟨sn.toArray⟩, .int .i64 si], .int .i64 0]) (by simp [results, Tryz.f38, go_sem, y0, y1, y2]) rfl ?_
        exact ⟨by rw [HN.out], hbl⟩
      · obtain rfl : gk = 2 := by simpa using hc
        clear hc
        go_wp2
        obtain ⟨⟨y0, y1, y2⟩, _⟩ := hb3.three
        refine bodyPost_ret (v := .tuple #[.agg #[.int .i64 sd, .string ⟨sn.toArray⟩, .int .i64 si], .int .i64 0]) (by simp [results, Tryz.f38, go_sem, y0, y1, y2]) rfl ?_
        exact ⟨by rw [HN.out], hbl⟩
  · have HN : Hid (Q = (zeroS, 3)) := by (show _ = _); rw [HON.out, hc]; rfl
    obtain ⟨W', hW', hb3, hg3⟩ := bR2.put3 (.int .i64 0) (.string ⟨#[]⟩) (.int .i64 0)
    have hbl := below_grown hB hg3 (Nat.le_refl _) (by omega)
    clear HON
    rw [Bool.and_eq_true, Bool.and_eq_true] at hc
    obtain ⟨⟨rfl, rfl⟩, hk⟩ := hc
    have hk2 : ¬ gk = 2 := by simpa using hk
    clear hk
    go_wp2
    obtain ⟨⟨y0, y1, y2⟩, _⟩ := hb3.three
    refine bodyPost_ret (v := .tuple #[.agg #[.int .i64 0, .string ⟨#[]⟩, .int .i64 0], .int .i64 3]) (by simp [results, Tryz.f38, go_sem, y0, y1, y2]) rfl ?_
    exact ⟨by rw [HN.out], hbl⟩
end Go.Proofs.YtobepdmpacdakaaGreat
