import Derived.Test.YtoejjdebfjepaaaGreatQSmall14
import Derived.Test.YtoejjdebfjepaaaGreatQMLawBase05
import Derived.Test.YtoejjdebfjepaaaGreatQMWalkB08
import Derived.Test.YtoejjdebfjepaaaGreatQMWalkD07
import Derived.Laws.StructEq
set_option linter.unusedVariables false
set_option linter.unusedSimpArgs false
/- Walks: awake, of what is renamed; whether a file system and paths may be looked at. -/
set_option linter.unusedVariables false
set_option linter.unusedSimpArgs false
namespace Go.Proofs.YtoejjdebfjepaaaGreat
open Go.RowKit
set_option linter.unusedVariables false

theorem aw14_ren (l : List Nd) (base p q : List UInt8) (r1 r2 : Sp × Int) (R : Value → Value → Value → List Nd × Int) (v : Value) (w : World) (hv : Nds w v l) (hok : okB 9 9 9 l = true) (hb : base.length ≤ 100) (hp : p.length ≤ 100) (hq : q.length ≤ 100) (h : seekF 20 l base p false = some r1) (h2 : seekF 20 l base q false = some r2) (h3 : ∀ ev e1 e2, renameE r1 r2 l q ev e1 e2 = R ev e1 e2) :
    Calls Tryz.prog 10 #[.agg (fsC 9 9 9 v), .string ⟨base.toArray⟩, .string ⟨p.toArray⟩, .string ⟨q.toArray⟩] w fun e w' => ∃ y ev e1 e2, e = .returned (.tuple #[.agg (fsC 9 9 9 y), .int .i64 (R ev e1 e2).2]) ∧ Nds w' y (R ev e1 e2).1 ∧ Below w.heap.size w w' := by
  refine (Rename_any 9 9 9 l base p q v w hv (ok_s hok) (by omega) (by omega) (by omega)).mono ?_
  rintro e w' ⟨y, ev, e1, e2, rfl, hM, hB⟩
  have hn := hM.now hv hB
  rw [renameF_eq 20 h h2, h3] at hn
  exact ⟨y, ev, e1, e2, by rw [renameF_eq 20 h h2, h3], hn, hB⟩
theorem aw14_in (l : List Nd) (d o : Int) (t : Bool) (v : Value) (w : World) (hv : Nds w v l) (hok : okB 9 9 9 l = true) (hd : isDir l d = true) (ho : isDir l o = true) (h : insideN l d o = t) :
    Calls Tryz.prog 15 #[.agg (fsC 9 9 9 v), .int .i64 d, .int .i64 o] w fun e w' => e = .returned (.bool t) ∧ Below w.heap.size w w' := by
  have := Inside_any 9 9 9 d o l v w hv (ok_s hok) hd
  rwa [h] at this

set_option maxRecDepth 100000 in
set_option maxHeartbeats 16000000 in
theorem awake14 (w : World) : Calls Tryz.prog 8 #[] w fun e w' => e = .returned (.bool true) ∧ Below w.heap.size w w' := by
  go_enter Tryz.func8, Tryz.ntmps8
  go_wp2_with fail
  refine (small14_any _).mono ?_
  rintro e w0 ⟨v0, g1, g2, rfl, n0, hB⟩
  unfold soL at n0
  obtain ⟨a0, c0, rfl⟩ := nds_slice n0
  have s0 := alloc_below w0 (.cells (fsC 9 9 9 (.slice a0 4 c0)) 24)
  have b0 := Blk.new w0 24 (fsC 9 9 9 (.slice a0 4 c0))
  replace n0 := n0.below s0
  replace hB := hB.trans (s0.mono hB.size)
  clear s0
  obtain ⟨⟨p0, p1, p2, p3⟩, _⟩ := b0.four
  go_wp2_with fail; refine (aw14_ren [soR g1, soD g2, soF, soE] [47] [100] [120] (⟨1, [100], 3⟩, 0) (⟨1, [120], 0⟩, 0) (fun ev e1 e2 => ([⟨1, 2, 0, [], 1, e2, [([102], 4), ([120], 3)]⟩, soD g2, soF, soE], 0)) _ _ n0 (so_ok g1 g2) (by decide) (by decide) (by decide) (by kernel_rfl) (by kernel_rfl) (fun ev e1 e2 => by kernel_rfl)).mono ?_; rintro e w1 ⟨v1, ev1, ea1, eb1, rfl, n1, c1⟩
  clear p0 p1 p2 p3
  obtain ⟨a1, k1, rfl⟩ := nds_slice n1
  have s1 := alloc_below w1 (.cells (fsC 9 9 9 (.slice a1 4 k1)) 24)
  have d1 := c1.trans (s1.mono c1.size)
  have b1 := Blk.new w1 24 (fsC 9 9 9 (.slice a1 4 k1))
  replace n1 := n1.below s1
  replace b0 := b0.next d1
  replace n0 := n0.below d1
  replace hB := hB.trans (d1.mono hB.size)
  clear s1 c1 d1
  obtain ⟨⟨p0, p1, p2, p3⟩, _⟩ := b0.four
  go_wp2_with fail; refine (aw14_ren [soR g1, soD g2, soF, soE] [47] [100] [100, 47, 101] (⟨1, [100], 3⟩, 0) (⟨3, [101], 5⟩, 0) (fun ev e1 e2 => ([soR g1, soD g2, soF, soE], 9)) _ _ n0 (so_ok g1 g2) (by decide) (by decide) (by decide) (by kernel_rfl) (by kernel_rfl) (fun ev e1 e2 => by kernel_rfl)).mono ?_; rintro e w2 ⟨v2, ev2, ea2, eb2, rfl, n2, c2⟩
  clear p0 p1 p2 p3
  obtain ⟨a2, k2, rfl⟩ := nds_slice n2
  have s2 := alloc_below w2 (.cells (fsC 9 9 9 (.slice a2 4 k2)) 24)
  have d2 := c2.trans (s2.mono c2.size)
  replace b0 := b0.next d2
  replace n0 := n0.below d2
  replace b1 := b1.next d2
  replace n1 := n1.below d2
  replace hB := hB.trans (d2.mono hB.size)
  clear s2 c2 d2 n2
  obtain ⟨⟨p0, p1, p2, p3⟩, _⟩ := b0.four
  go_wp2_with fail; refine (aw14_ren [soR g1, soD g2, soF, soE] [47] [102] [100] (⟨1, [102], 4⟩, 0) (⟨1, [100], 3⟩, 0) (fun ev e1 e2 => ([soR g1, soD g2, soF, soE], 4)) _ _ n0 (so_ok g1 g2) (by decide) (by decide) (by decide) (by kernel_rfl) (by kernel_rfl) (fun ev e1 e2 => by kernel_rfl)).mono ?_; rintro e w3 ⟨v3, ev3, ea3, eb3, rfl, n3, c3⟩
  clear p0 p1 p2 p3
  obtain ⟨a3, k3, rfl⟩ := nds_slice n3
  have s3 := alloc_below w3 (.cells (fsC 9 9 9 (.slice a3 4 k3)) 24)
  have d3 := c3.trans (s3.mono c3.size)
  replace b0 := b0.next d3
  replace n0 := n0.below d3
  replace b1 := b1.next d3
  replace n1 := n1.below d3
  replace hB := hB.trans (d3.mono hB.size)
  clear s3 c3 d3 n3
  obtain ⟨⟨p0, p1, p2, p3⟩, _⟩ := b0.four
  go_wp2_with fail; refine (aw14_ren [soR g1, soD g2, soF, soE] [47] [100] [102] (⟨1, [100], 3⟩, 0) (⟨1, [102], 4⟩, 0) (fun ev e1 e2 => ([soR g1, soD g2, soF, soE], 3)) _ _ n0 (so_ok g1 g2) (by decide) (by decide) (by decide) (by kernel_rfl) (by kernel_rfl) (fun ev e1 e2 => by kernel_rfl)).mono ?_; rintro e w4 ⟨v4, ev4, ea4, eb4, rfl, n4, c4⟩
  clear p0 p1 p2 p3
  obtain ⟨a4, k4, rfl⟩ := nds_slice n4
  have s4 := alloc_below w4 (.cells (fsC 9 9 9 (.slice a4 4 k4)) 24)
  have d4 := c4.trans (s4.mono c4.size)
  replace b0 := b0.next d4
  replace n0 := n0.below d4
  replace b1 := b1.next d4
  replace n1 := n1.below d4
  replace hB := hB.trans (d4.mono hB.size)
  clear s4 c4 d4 n4
  obtain ⟨⟨p0, p1, p2, p3⟩, _⟩ := b0.four
  go_wp2_with fail; refine (aw14_ren [soR g1, soD g2, soF, soE] [47, 100] [101] [46, 46, 47, 101] (⟨3, [101], 5⟩, 0) (⟨1, [101], 0⟩, 0) (fun ev e1 e2 => ([⟨1, 2, 0, [], 1, e2, [([100], 3), ([101], 5), ([102], 4)]⟩, ⟨3, 2, 1, [], 1, e1, []⟩, soF, ⟨5, 2, 1, [], 1, .slice none 0 0, []⟩], 0)) _ _ n0 (so_ok g1 g2) (by decide) (by decide) (by decide) (by kernel_rfl) (by kernel_rfl) (fun ev e1 e2 => by kernel_rfl)).mono ?_; rintro e w5 ⟨v5, ev5, ea5, eb5, rfl, n5, c5⟩
  clear p0 p1 p2 p3
  obtain ⟨a5, k5, rfl⟩ := nds_slice n5
  have s5 := alloc_below w5 (.cells (fsC 9 9 9 (.slice a5 4 k5)) 24)
  have d5 := c5.trans (s5.mono c5.size)
  have b5 := Blk.new w5 24 (fsC 9 9 9 (.slice a5 4 k5))
  replace n5 := n5.below s5
  replace b0 := b0.next d5
  replace n0 := n0.below d5
  replace b1 := b1.next d5
  replace n1 := n1.below d5
  replace hB := hB.trans (d5.mono hB.size)
  clear s5 c5 d5
  obtain ⟨⟨p0, p1, p2, p3⟩, _⟩ := b0.four
  go_wp2_with fail; refine (aw14_ren [soR g1, soD g2, soF, soE] [47] [102] [102] (⟨1, [102], 4⟩, 0) (⟨1, [102], 4⟩, 0) (fun ev e1 e2 => ([soR g1, soD g2, soF, soE], 0)) _ _ n0 (so_ok g1 g2) (by decide) (by decide) (by decide) (by kernel_rfl) (by kernel_rfl) (fun ev e1 e2 => by kernel_rfl)).mono ?_; rintro e w6 ⟨v6, ev6, ea6, eb6, rfl, n6, c6⟩
  clear p0 p1 p2 p3
  obtain ⟨a6, k6, rfl⟩ := nds_slice n6
  have s6 := alloc_below w6 (.cells (fsC 9 9 9 (.slice a6 4 k6)) 24)
  have d6 := c6.trans (s6.mono c6.size)
  have b6 := Blk.new w6 24 (fsC 9 9 9 (.slice a6 4 k6))
  replace n6 := n6.below s6
  replace b0 := b0.next d6
  replace n0 := n0.below d6
  replace b1 := b1.next d6
  replace n1 := n1.below d6
  replace b5 := b5.next d6
  replace n5 := n5.below d6
  replace hB := hB.trans (d6.mono hB.size)
  clear s6 c6 d6
  obtain ⟨⟨p0, p1, p2, p3⟩, _⟩ := b0.four
  go_wp2_with fail; refine (aw14_ren [soR g1, soD g2, soF, soE] [47] [100, 47, 46] [120] (⟨0, [], 3⟩, 0) (⟨1, [120], 0⟩, 0) (fun ev e1 e2 => ([soR g1, soD g2, soF, soE], 10)) _ _ n0 (so_ok g1 g2) (by decide) (by decide) (by decide) (by kernel_rfl) (by kernel_rfl) (fun ev e1 e2 => by kernel_rfl)).mono ?_; rintro e w7 ⟨v7, ev7, ea7, eb7, rfl, n7, c7⟩
  clear p0 p1 p2 p3
  obtain ⟨a7, k7, rfl⟩ := nds_slice n7
  have s7 := alloc_below w7 (.cells (fsC 9 9 9 (.slice a7 4 k7)) 24)
  have d7 := c7.trans (s7.mono c7.size)
  replace b0 := b0.next d7
  replace n0 := n0.below d7
  replace b1 := b1.next d7
  replace n1 := n1.below d7
  replace b5 := b5.next d7
  replace n5 := n5.below d7
  replace b6 := b6.next d7
  replace n6 := n6.below d7
  replace hB := hB.trans (d7.mono hB.size)
  clear s7 c7 d7 n7
  obtain ⟨⟨p0, p1, p2, p3⟩, _⟩ := b5.four
  have hG := refGetT_any 9 9 9 5 [⟨1, 2, 0, [], 1, eb5, [([100], 3), ([101], 5), ([102], 4)]⟩, ⟨3, 2, 1, [], 1, ea5, []⟩, soF, ⟨5, 2, 1, [], 1, .slice none 0 0, []⟩] _ _ n5
  rw [show getN [⟨1, 2, 0, [], 1, eb5, [([100], 3), ([101], 5), ([102], 4)]⟩, ⟨3, 2, 1, [], 1, ea5, []⟩, soF, ⟨5, 2, 1, [], 1, .slice none 0 0, []⟩] 5 = ⟨5, 2, 1, [], 1, .slice none 0 0, []⟩ from by kernel_rfl, show hasN [⟨1, 2, 0, [], 1, eb5, [([100], 3), ([101], 5), ([102], 4)]⟩, ⟨3, 2, 1, [], 1, ea5, []⟩, soF, ⟨5, 2, 1, [], 1, .slice none 0 0, []⟩] 5 = true from by kernel_rfl] at hG
  go_wp2_with fail
  refine hG.mono ?_
  rintro e w8 ⟨rfl, c8⟩
  clear p0 p1 p2 p3 hG
  have s8 := alloc_below w8 (.cells (ndC ⟨5, 2, 1, [], 1, .slice none 0 0, []⟩) 36)
  have bX := Blk.new w8 36 (ndC ⟨5, 2, 1, [], 1, .slice none 0 0, []⟩)
  have d8 := c8.trans (s8.mono c8.size)
  replace n0 := n0.below d8
  replace b0 := b0.next d8
  replace n1 := n1.below d8
  replace b1 := b1.next d8
  replace n6 := n6.below d8
  replace b6 := b6.next d8
  replace hB := hB.trans (d8.mono hB.size)
  clear s8 c8 d8 n5 b5
  obtain ⟨⟨p0, p1, p2, p3⟩, _⟩ := b1.four
  have hA := refAt_any 9 9 9 [⟨1, 2, 0, [], 1, eb1, [([102], 4), ([120], 3)]⟩, soD g2, soF, soE] [47, 120, 47, 101] _ _ n1 (by decide)
  rw [show atP [⟨1, 2, 0, [], 1, eb1, [([102], 4), ([120], 3)]⟩, soD g2, soF, soE] [47, 120, 47, 101] = (⟨3, [101], 5⟩, 0) from by kernel_rfl] at hA
  go_wp2_with fail
  refine hA.mono ?_
  rintro e w9 ⟨rfl, c9⟩
  clear p0 p1 p2 p3 hA
  have s9 := alloc_below w9 (.cells (spC ⟨3, [101], 5⟩) 41)
  have bT := Blk.new w9 41 (spC ⟨3, [101], 5⟩)
  have d9 := c9.trans (s9.mono c9.size)
  replace n0 := n0.below d9
  replace b0 := b0.next d9
  replace n6 := n6.below d9
  replace b6 := b6.next d9
  replace bX := bX.next d9
  replace hB := hB.trans (d9.mono hB.size)
  clear s9 c9 d9 n1 b1
  obtain ⟨⟨p0, p1, p2, p3⟩, _⟩ := b0.four
  obtain ⟨⟨r0, r1, r2, r3⟩, _⟩ := b6.four
  obtain ⟨⟨x0, x1, x2, x3, x4, x5⟩, _⟩ := bX.six
  obtain ⟨⟨t0, t1, t2⟩, _⟩ := bT.three
  dsimp only at x0 x1 x2 x3 x4 x5 t0 t1 t2
  have hS := refTab_any 9 9 9 9 9 9 [soR g1, soD g2, soF, soE] [soR g1, soD g2, soF, soE] _ _ _ n6 n0
  rw [show tabB 9 9 9 [soR g1, soD g2, soF, soE] 9 9 9 [soR g1, soD g2, soF, soE] = true from by simp [tabB, onesB_refl]] at hS
  go_wp2_with fail
  refine hS.mono ?_
  rintro e u1 ⟨rfl, c1⟩
  clear p0 p1 p2 p3 r0 r1 r2 r3 x0 x1 x2 x3 x4 x5 t0 t1 t2 hS
  replace n0 := n0.below c1
  replace b0 := b0.next c1
  replace hB := hB.trans (c1.mono hB.size)
  clear c1
  obtain ⟨⟨p0, p1, p2, p3⟩, _⟩ := b0.four
  go_wp2_with fail; refine (aw14_in [soR g1, soD g2, soF, soE] 5 3 true _ _ n0 (so_ok g1 g2) (by kernel_rfl) (by kernel_rfl) (by kernel_rfl)).mono ?_; rintro e u2 ⟨rfl, c2⟩
  clear p0 p1 p2 p3
  replace n0 := n0.below c2
  replace b0 := b0.next c2
  replace hB := hB.trans (c2.mono hB.size)
  clear c2
  obtain ⟨⟨p0, p1, p2, p3⟩, _⟩ := b0.four
  go_wp2_with fail; refine (aw14_in [soR g1, soD g2, soF, soE] 3 5 false _ _ n0 (so_ok g1 g2) (by kernel_rfl) (by kernel_rfl) (by kernel_rfl)).mono ?_; rintro e u3 ⟨rfl, c3⟩
  clear p0 p1 p2 p3
  replace n0 := n0.below c3
  replace b0 := b0.next c3
  replace hB := hB.trans (c3.mono hB.size)
  clear c3
  obtain ⟨⟨p0, p1, p2, p3⟩, _⟩ := b0.four
  go_wp2_with fail; refine (aw14_in [soR g1, soD g2, soF, soE] 1 1 true _ _ n0 (so_ok g1 g2) (by kernel_rfl) (by kernel_rfl) (by kernel_rfl)).mono ?_; rintro e u4 ⟨rfl, c4⟩
  clear p0 p1 p2 p3
  replace n0 := n0.below c4
  replace b0 := b0.next c4
  replace hB := hB.trans (c4.mono hB.size)
  clear c4
  go_wp2
  go_ret
  exact ⟨rfl, hB⟩

/-! ### May a file system, and paths, be looked at? -/
def fit14B (mi mb nx : Int) (l : List Nd) (base p q : List UInt8) : Bool := okB mi mb nx l && shortB l base p && shortB l base q
theorem fit14_parts {mi mb nx : Int} {l : List Nd} {base p q : List UInt8} (h : fit14B mi mb nx l base p q = true) : okB mi mb nx l = true ∧ shortB l base p = true ∧ shortB l base q = true := by
  unfold fit14B at h
  simp only [Bool.and_eq_true] at h
  exact ⟨h.1.1, h.1.2, h.2⟩

set_option maxHeartbeats 4000000 in
theorem fits14_any (mi mb nx : Int) (l : List Nd) (base p q : List UInt8) (v : Value) (w : World) (hv : Nds w v l) :
    Calls Tryz.prog 9 #[.agg (fsC mi mb nx v), .string ⟨base.toArray⟩, .string ⟨p.toArray⟩, .string ⟨q.toArray⟩] w fun e w' => e = .returned (.bool (fit14B mi mb nx l base p q)) ∧ Below w.heap.size w w' := by
  obtain ⟨a, ca, rfl⟩ := nds_slice hv
  have bF := Blk.new w 24 (fsC mi mb nx (.slice a l.length ca))
  have hB := alloc_below w (.cells (fsC mi mb nx (.slice a l.length ca)) 24)
  have nV := hv.below hB
  clear hv
  go_enter Tryz.func9, Tryz.ntmps9
  obtain ⟨⟨p0, p1, p2, p3⟩, _⟩ := bF.four
  go_wp2_with fail; refine (refOk_any mi mb nx l _ _ nV).mono ?_; rintro e w1 ⟨rfl, b1⟩
  (replace bF := bF.next b1; replace nV := nV.below b1; replace hB := hB.trans (b1.mono hB.size))
  clear b1 p0 p1 p2 p3
  obtain ⟨⟨p0, p1, p2, p3⟩, _⟩ := bF.four
  cases hok : okB mi mb nx l
  · have HN : Hid (fit14B mi mb nx l base p q = false) := by (show _ = _); unfold fit14B; rw [hok]; rfl
    go_wp2
    go_ret
    exact ⟨ret_bool (by rw [HN.out]), hB⟩
  go_wp2_with fail
  refine (refShort_any mi mb nx l base p _ _ nV).mono ?_
  rintro e w2 ⟨rfl, b2⟩
  (replace bF := bF.next b2; replace nV := nV.below b2; replace hB := hB.trans (b2.mono hB.size))
  clear b2 p0 p1 p2 p3
  obtain ⟨⟨p0, p1, p2, p3⟩, _⟩ := bF.four
  cases hsh : shortB l base p
  · have HN : Hid (fit14B mi mb nx l base p q = false) := by (show _ = _); unfold fit14B; rw [hok, hsh]; rfl
    go_wp2
    go_ret
    exact ⟨ret_bool (by rw [HN.out]), hB⟩
  have HN : Hid (fit14B mi mb nx l base p q = shortB l base q) := by (show _ = _); unfold fit14B; rw [hok, hsh]; rfl
  go_wp2_with fail
  refine (refShort_any mi mb nx l base q _ _ nV).mono ?_
  rintro e w3 ⟨rfl, b3⟩
  go_wp2
  go_ret
  exact ⟨ret_bool (by rw [HN.out]), hB.trans (b3.mono hB.size)⟩
end Go.Proofs.YtoejjdebfjepaaaGreat
