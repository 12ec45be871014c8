/- Walks: awake. -/
import Derived.Test.YtakaoplfkjejfaaQWalkP10
import Derived.Test.YtakaoplfkjejfaaQAwake10
import Derived.Test.YtakaoplfkjejfaaQ
import Derived.Laws.StructEq
import Derived.Deep.RegionHeld3
namespace Go.Proofs.Ytakaoplfkjejfaa
open Go.RowKit
set_option linter.unusedVariables false

theorem aw10_seek (base p : List UInt8) (fo : Bool) (r : Sp × Int) (e1 e2 v : Value) (w : World) (hv : Nds w v (smL e1 e2)) (hb : base.length ≤ 100) (hp : p.length ≤ 100) (h : seekF 20 (smL e1 e2) base p fo = some r) :
    Calls Try.prog 11 #[.agg (fsC 9 9 9 v), .string ⟨base.toArray⟩, .string ⟨p.toArray⟩, .bool fo] w fun e w' => e = .returned (.tuple #[.agg (spC r.1), .int .i64 r.2]) ∧ Below w.heap.size w w' := by
  have := Seek_any 9 9 9 _ base p fo v w hv (sm_ok e1 e2) (by omega) (by omega)
  rwa [seekF_eq 20 h] at this
theorem aw10_home (e1 e2 v : Value) (w : World) (hv : Nds w v (smL e1 e2)) :
    Calls Try.prog 16 #[.agg (fsC 9 9 9 v), .string ⟨#[47, 100]⟩] w fun e w' => e = .returned (.tuple #[.int .i64 3, .int .i64 0]) ∧ Below w.heap.size w w' := by
  have := Home_any 9 9 9 _ [47, 100] v w hv (sm_ok e1 e2) (by decide)
  rwa [show homeP (smL e1 e2) [47, 100] = (3, 0) from by kernel_rfl] at this
theorem aw10_dir (p : List UInt8) (r : Sp × Int) (t : Bool) (e1 e2 v : Value) (w : World) (hv : Nds w v (smL e1 e2)) (hp : p.length ≤ 100) (h : seekF 20 (smL e1 e2) [47] p true = some r) (h2 : (decide (r.2 = 0) && isDir (smL e1 e2) r.1.ino) = t) :
    Calls Try.prog 17 #[.agg (fsC 9 9 9 v), .string ⟨#[47]⟩, .string ⟨p.toArray⟩] w fun e w' => e = .returned (.bool t) ∧ Below w.heap.size w w' := by
  have := Dir_any 9 9 9 _ [47] p v w hv (sm_ok e1 e2) (by decide) (by omega)
  rwa [show dirP (smL e1 e2) [47] p = t from by unfold dirP; rw [seekF_eq 20 h]; exact h2] at this

set_option maxRecDepth 100000 in
set_option maxHeartbeats 8000000 in
theorem awake10 (w : World) : Calls Try.prog 6 #[] w fun e w' => e = .returned (.bool true) ∧ Below w.heap.size w w' := by
  go_enter Try.func6, Try.ntmps6
  go_wp2_with fail
  refine (small10_any _).mono ?_
  rintro e w1 ⟨v1, g1, g2, rfl, nV, hB⟩
  obtain ⟨a3, c3, rfl⟩ := nds_slice nV
  have s1 := alloc_below w1 (.cells (fsC 9 9 9 (.slice a3 4 c3)) 24)
  have bF := Blk.new w1 24 (fsC 9 9 9 (.slice a3 4 c3))
  replace nV := nV.below s1
  replace hB := hB.trans (s1.mono hB.size)
  clear s1
  obtain ⟨⟨p0, p1, p2, p3⟩, _⟩ := bF.four
  go_wp2_with fail; refine (aw10_seek [47] [115, 47, 102] false (⟨3, [102], 4⟩, 0) g1 g2 _ _ nV (by decide) (by decide) (by kernel_rfl)).mono ?_; rintro e u1 ⟨rfl, b1⟩
  clear p0 p1 p2 p3
  have s1 := alloc_below u1 (.cells (spC ⟨3, [102], 4⟩) 38)
  have bA := Blk.new u1 38 (spC ⟨3, [102], 4⟩)
  (replace bF := bF.next b1; replace nV := nV.below b1; replace hB := hB.trans (b1.mono hB.size))
  (replace bF := bF.next s1; replace nV := nV.below s1; replace hB := hB.trans (s1.mono hB.size))
  clear b1 s1
  obtain ⟨⟨p0, p1, p2, p3⟩, _⟩ := bF.four
  go_wp2_with fail; refine (aw10_seek [47] [115] false (⟨1, [115], 5⟩, 0) g1 g2 _ _ nV (by decide) (by decide) (by kernel_rfl)).mono ?_; rintro e u2 ⟨rfl, b2⟩
  clear p0 p1 p2 p3
  have s2 := alloc_below u2 (.cells (spC ⟨1, [115], 5⟩) 38)
  have bC := Blk.new u2 38 (spC ⟨1, [115], 5⟩)
  (replace bF := bF.next b2; replace nV := nV.below b2; replace hB := hB.trans (b2.mono hB.size))
  replace bA := bA.next b2
  (replace bF := bF.next s2; replace nV := nV.below s2; replace hB := hB.trans (s2.mono hB.size))
  replace bA := bA.next s2
  clear b2 s2
  obtain ⟨⟨p0, p1, p2, p3⟩, _⟩ := bF.four
  go_wp2_with fail; refine (aw10_seek [47, 100] [46, 46, 47, 115, 47] false (⟨1, [100], 3⟩, 0) g1 g2 _ _ nV (by decide) (by decide) (by kernel_rfl)).mono ?_; rintro e u3 ⟨rfl, b3⟩
  clear p0 p1 p2 p3
  have s3 := alloc_below u3 (.cells (spC ⟨1, [100], 3⟩) 38)
  have bD := Blk.new u3 38 (spC ⟨1, [100], 3⟩)
  (replace bF := bF.next b3; replace nV := nV.below b3; replace hB := hB.trans (b3.mono hB.size))
  replace bA := bA.next b3
  replace bC := bC.next b3
  (replace bF := bF.next s3; replace nV := nV.below s3; replace hB := hB.trans (s3.mono hB.size))
  replace bA := bA.next s3
  replace bC := bC.next s3
  clear b3 s3
  obtain ⟨⟨p0, p1, p2, p3⟩, _⟩ := bF.four
  go_wp2_with fail; refine (aw10_seek [47, 100] [46, 46] true (⟨0, [], 1⟩, 0) g1 g2 _ _ nV (by decide) (by decide) (by kernel_rfl)).mono ?_; rintro e u4 ⟨rfl, b4⟩
  clear p0 p1 p2 p3
  have s4 := alloc_below u4 (.cells (spC ⟨0, [], 1⟩) 38)
  have bG := Blk.new u4 38 (spC ⟨0, [], 1⟩)
  (replace bF := bF.next b4; replace nV := nV.below b4; replace hB := hB.trans (b4.mono hB.size))
  replace bA := bA.next b4
  replace bC := bC.next b4
  replace bD := bD.next b4
  (replace bF := bF.next s4; replace nV := nV.below s4; replace hB := hB.trans (s4.mono hB.size))
  replace bA := bA.next s4
  replace bC := bC.next s4
  replace bD := bD.next s4
  clear b4 s4
  obtain ⟨⟨p0, p1, p2, p3⟩, _⟩ := bF.four
  go_wp2_with fail; refine (aw10_seek [47] [] false (⟨0, [], 0⟩, 1) g1 g2 _ _ nV (by decide) (by decide) (by kernel_rfl)).mono ?_; rintro e u5 ⟨rfl, b5⟩
  clear p0 p1 p2 p3
  have s5 := alloc_below u5 (.cells (spC ⟨0, [], 0⟩) 38)
  (replace bF := bF.next b5; replace nV := nV.below b5; replace hB := hB.trans (b5.mono hB.size))
  replace bA := bA.next b5
  replace bC := bC.next b5
  replace bD := bD.next b5
  replace bG := bG.next b5
  (replace bF := bF.next s5; replace nV := nV.below s5; replace hB := hB.trans (s5.mono hB.size))
  replace bA := bA.next s5
  replace bC := bC.next s5
  replace bD := bD.next s5
  replace bG := bG.next s5
  clear b5 s5
  obtain ⟨⟨p0, p1, p2, p3⟩, _⟩ := bF.four
  go_wp2_with fail; refine (aw10_seek [47] [100, 47, 102, 47] false (⟨0, [], 0⟩, 3) g1 g2 _ _ nV (by decide) (by decide) (by kernel_rfl)).mono ?_; rintro e u6 ⟨rfl, b6⟩
  clear p0 p1 p2 p3
  have s6 := alloc_below u6 (.cells (spC ⟨0, [], 0⟩) 38)
  (replace bF := bF.next b6; replace nV := nV.below b6; replace hB := hB.trans (b6.mono hB.size))
  replace bA := bA.next b6
  replace bC := bC.next b6
  replace bD := bD.next b6
  replace bG := bG.next b6
  (replace bF := bF.next s6; replace nV := nV.below s6; replace hB := hB.trans (s6.mono hB.size))
  replace bA := bA.next s6
  replace bC := bC.next s6
  replace bD := bD.next s6
  replace bG := bG.next s6
  clear b6 s6
  obtain ⟨⟨p0, p1, p2, p3⟩, _⟩ := bF.four
  go_wp2_with fail; refine (aw10_home g1 g2 _ _ nV).mono ?_; rintro e u7 ⟨rfl, b7⟩
  clear p0 p1 p2 p3
  (replace bF := bF.next b7; replace nV := nV.below b7; replace hB := hB.trans (b7.mono hB.size))
  replace bA := bA.next b7
  replace bC := bC.next b7
  replace bD := bD.next b7
  replace bG := bG.next b7
  clear b7
  obtain ⟨⟨a0, a1, a2⟩, _⟩ := bA.three
  obtain ⟨⟨c0, c1, c2⟩, _⟩ := bC.three
  obtain ⟨⟨d0, d1, d2⟩, _⟩ := bD.three
  obtain ⟨⟨h0, h1, h2⟩, _⟩ := bG.three
  dsimp only at a0 a1 a2 c0 c1 c2 d0 d1 d2 h0 h1 h2
  obtain ⟨⟨p0, p1, p2, p3⟩, _⟩ := bF.four
  go_wp2_with fail
  refine (aw10_dir [115] (⟨1, [100], 3⟩, 0) true g1 g2 _ _ nV (by decide) (by kernel_rfl) (by kernel_rfl)).mono ?_
  rintro e u8 ⟨rfl, b8⟩
  clear p0 p1 p2 p3
  (replace bF := bF.next b8; replace nV := nV.below b8; replace hB := hB.trans (b8.mono hB.size))
  obtain ⟨⟨p0, p1, p2, p3⟩, _⟩ := bF.four
  go_wp2_with fail
  refine (aw10_dir [115, 47, 102] (⟨3, [102], 4⟩, 0) false g1 g2 _ _ nV (by decide) (by kernel_rfl) (by kernel_rfl)).mono ?_
  rintro e u9 ⟨rfl, b9⟩
  go_wp2
  go_ret
  exact ⟨rfl, hB.trans (b9.mono hB.size)⟩
end Go.Proofs.Ytakaoplfkjejfaa
