/- Walks: awake. -/
import Derived.Test.YtneklkjlcpgdgaaQAwake08
import Derived.Test.YtneklkjlcpgdgaaQWalkB08
import Derived.Laws.StructEq
namespace Go.Proofs.Ytneklkjlcpgdgaa
open Go.RowKit
set_option linter.unusedVariables false

theorem sn_tree (e1 e2 : Value) : Tree (snL e1 e2) := tree_of (sn_ok e1 e2)
theorem sn_short (e1 e2 : Value) : ∀ x ∈ snL e1 e2, shortP 300 x.ents := by
  intro x hx e he
  simp [snL] at hx
  rcases hx with rfl | rfl | rfl
  · simp [snR] at he; subst he; decide
  · simp [snD] at he; subst he; decide
  · simp [snF] at he
theorem aw8_list (e1 e2 v : Value) (w : World) (hv : Nds w v (snL e1 e2)) :
    Calls Try.prog 11 #[.agg (fsC 9 9 9 v)] w fun e w' => ∃ y, e = .returned y ∧ w'.ownsRow w.heap.size 51 2 y 3 (entsV [([47], 1), ([47, 100], 3), ([47, 100, 47, 102], 4)]) ∧ Below w.heap.size w w' := by
  have := ListW_any 9 9 9 _ (sn_tree e1 e2) (sn_short e1 e2) (by simp [snL]) v w hv (by rw [show listN (snL e1 e2) = [([47], 1), ([47, 100], 3), ([47, 100, 47, 102], 4)] from by kernel_rfl]; decide)
  rwa [show listN (snL e1 e2) = [([47], 1), ([47, 100], 3), ([47, 100, 47, 102], 4)] from by kernel_rfl] at this
theorem aw8_pathof (e1 e2 v : Value) (w : World) (hv : Nds w v (snL e1 e2)) (i : Int) (p : List UInt8) (t : Bool) (h : pathOfB (snL e1 e2) i = p) (h2 : isDir (snL e1 e2) i = t) :
    Calls Try.prog 16 #[.agg (fsC 9 9 9 v), .int .i64 i] w fun e w' => e = .returned (.tuple #[.string ⟨p.toArray⟩, .bool t]) ∧ Below w.heap.size w w' := by
  have := PathOfW_any 9 9 9 _ (sn_tree e1 e2) (sn_short e1 e2) (by simp [snL]) (by intro x hx; simp [snL] at hx; rcases hx with rfl | rfl | rfl <;> simp [snR, snD, snF]) v w hv i
  rwa [h, h2] at this
theorem aw8_paths (e1 e2 v : Value) (w : World) (hv : Nds w v (snL e1 e2)) :
    Calls Try.prog 19 #[.agg (fsC 9 9 9 v), .int .i64 4] w fun e w' => ∃ y, e = .returned y ∧ w'.ownsRow w.heap.size 9 1 y 1 (strsV [[47, 100, 47, 102]]) ∧ Below w.heap.size w w' := by
  have := PathsW_any 9 9 9 _ (sn_tree e1 e2) (sn_short e1 e2) (by simp [snL]) v w hv 4 (by rw [show (walkS (snL e1 e2) 1 []).length = 3 from by kernel_rfl]; decide)
  rwa [show pathsN (snL e1 e2) 4 = [[47, 100, 47, 102]] from by kernel_rfl] at this
theorem aw8_below (e1 e2 v : Value) (w : World) (hv : Nds w v (snL e1 e2)) (i : Int) (p : List UInt8) (k : Nat) (hp : p.length ≤ 100) (h : (walkS (snL e1 e2) i (namesB p)).length = k) (hk : k ≤ 10) :
    Calls Try.prog 13 #[.agg (fsC 9 9 9 v), .int .i64 i, .string ⟨p.toArray⟩] w fun e w' => ∃ a c, e = .returned (.slice a k c) ∧ Below w.heap.size w w' := by
  have := BelowW_any 9 9 9 _ (sn_tree e1 e2) (sn_short e1 e2) (by simp [snL]) v w hv i p (by omega) (by omega)
  refine this.mono ?_
  rintro e w' ⟨y, rfl, hown, hb⟩
  rw [h] at hown
  obtain ⟨a, c, rfl⟩ := own_slice hown
  exact ⟨a, c, rfl, hb⟩

set_option maxRecDepth 100000 in
set_option maxHeartbeats 8000000 in
theorem awake08 (w : World) : Calls Try.prog 7 #[] w fun e w' => e = .returned (.bool true) ∧ Below w.heap.size w w' := by
  go_enter Try.func7, Try.ntmps7
  go_wp2_with fail
  refine (small08_any _).mono ?_
  rintro e w1 ⟨v1, g1, g2, rfl, nV, hB⟩
  obtain ⟨a3, c3, rfl⟩ := nds_slice nV
  have s1 := alloc_below w1 (.cells (fsC 9 9 9 (.slice a3 3 c3)) 24)
  have bF := Blk.new w1 24 (fsC 9 9 9 (.slice a3 3 c3))
  replace nV := nV.below s1
  replace hB := hB.trans (s1.mono hB.size)
  clear s1
  obtain ⟨⟨p0, p1, p2, p3⟩, _⟩ := bF.four
  go_wp2_with fail; refine (aw8_list g1 g2 _ _ nV).mono ?_; rintro e u1 ⟨y1, rfl, ow1, b1⟩
  clear p0 p1 p2 p3
  obtain ⟨a1, c1, rfl⟩ := own_slice ow1
  (replace bF := bF.next b1; replace nV := nV.below b1; replace hB := hB.trans (b1.mono hB.size))
  obtain ⟨⟨p0, p1, p2, p3⟩, _⟩ := bF.four
  go_wp2_with fail; refine (aw8_pathof g1 g2 _ _ nV 3 [47, 100] true (by kernel_rfl) (by kernel_rfl)).mono ?_; rintro e u2 ⟨rfl, b2⟩
  clear p0 p1 p2 p3
  (replace bF := bF.next b2; replace nV := nV.below b2; replace hB := hB.trans (b2.mono hB.size))
  replace ow1 := own_keep ow1 b2
  obtain ⟨⟨p0, p1, p2, p3⟩, _⟩ := bF.four
  go_wp2_with fail; refine (aw8_pathof g1 g2 _ _ nV 4 [] false (by kernel_rfl) (by kernel_rfl)).mono ?_; rintro e u3 ⟨rfl, b3⟩
  clear p0 p1 p2 p3
  (replace bF := bF.next b3; replace nV := nV.below b3; replace hB := hB.trans (b3.mono hB.size))
  replace ow1 := own_keep ow1 b3
  obtain ⟨⟨p0, p1, p2, p3⟩, _⟩ := bF.four
  go_wp2_with fail; refine (aw8_paths g1 g2 _ _ nV).mono ?_; rintro e u4 ⟨y4, rfl, ow4, b4⟩
  clear p0 p1 p2 p3
  obtain ⟨g4, c4, rfl⟩ := ownsRow_succ ow4
  (replace bF := bF.next b4; replace nV := nV.below b4; replace hB := hB.trans (b4.mono hB.size))
  replace ow1 := own_keep ow1 b4
  have bS := Blk.new u4 51 (entsV [([47], 1), ([47, 100], 3), ([47, 100, 47, 102], 4)]).toArray
  have s5 := alloc_below u4 (.cells (entsV [([47], 1), ([47, 100], 3), ([47, 100, 47, 102], 4)]).toArray 51)
  have hE2 := blk_ents (L := [([47], 1), ([47, 100], 3), ([47, 100, 47, 102], 4)]) bS (by decide)
  have hE1 := own_ents (l := [([47], 1), ([47, 100], 3), ([47, 100, 47, 102], 4)]) (own_keep ow1 s5)
  have hSame := refSameS_any _ _ _ _ _ hE1 hE2
  rw [decide_eq_true (rfl : ([([47], 1), ([47, 100], 3), ([47, 100, 47, 102], 4)] : List Ent) = _)] at hSame
  (replace bF := bF.next s5; replace nV := nV.below s5; replace hB := hB.trans (s5.mono hB.size))
  replace ow4 := own_keep ow4 s5
  go_wp2_with fail
  refine hSame.mono ?_
  rintro e u6 ⟨rfl, b6⟩
  clear hSame hE1 hE2 bS ow1
  (replace bF := bF.next b6; replace nV := nV.below b6; replace hB := hB.trans (b6.mono hB.size))
  replace ow4 := own_keep ow4 b6
  have q0 := (ow4.cellAt 0 (by decide)).trans (rfl : _ = some (Value.string ⟨#[47, 100, 47, 102]⟩))
  obtain ⟨⟨p0, p1, p2, p3⟩, _⟩ := bF.four
  go_wp2_with fail; refine (aw8_below g1 g2 _ _ nV 3 [47, 120] 2 (by decide) (by kernel_rfl) (by decide)).mono ?_; rintro e u7 ⟨a7, c7, rfl, b7⟩
  clear p0 p1 p2 p3 q0
  (replace bF := bF.next b7; replace nV := nV.below b7; replace hB := hB.trans (b7.mono hB.size))
  obtain ⟨⟨p0, p1, p2, p3⟩, _⟩ := bF.four
  go_wp2_with fail; refine (aw8_below g1 g2 _ _ nV 7 [47] 0 (by decide) (by kernel_rfl) (by decide)).mono ?_; rintro e u8 ⟨a8, c8, rfl, b8⟩
  clear p0 p1 p2 p3
  (replace bF := bF.next b8; replace nV := nV.below b8; replace hB := hB.trans (b8.mono hB.size))
  go_wp2
  go_ret
  exact ⟨rfl, hB⟩
end Go.Proofs.Ytneklkjlcpgdgaa
