import Derived.Test.YtkipplkaffpkjaaGreatQWalkP13
import Derived.Test.YtkipplkaffpkjaaGreatQMWalkK05
import Derived.Test.YtkipplkaffpkjaaGreatQMWalkD04
set_option linter.unusedVariables false
set_option linter.unusedSimpArgs false
/- Walks: the statements' small file system. -/
set_option linter.unusedVariables false
set_option linter.unusedSimpArgs false
namespace Go.Proofs.YtkipplkaffpkjaaGreat
open Go.RowKit
set_option linter.unusedVariables false

def stR (ev : Value) : Nd := ⟨1, 2, 0, [], 1, ev, [([102], 4), ([115], 5)]⟩
def stF : Nd := ⟨4, 1, 1, [97, 98], 0, .slice none 0 0, []⟩
def stS : Nd := ⟨5, 3, 1, [102], 0, .slice none 0 0, []⟩
theorem st_1 (e1 : Value) : finN (stR e1) ([rootN].filter (fun e => e.ino != (stR e1).ino)) = [stR e1] := rfl
theorem st_2 (e1 : Value) : finN stF ([stR e1].filter (fun e => e.ino != stF.ino)) = [stR e1, stF] := rfl
theorem st_3 (e1 : Value) : finN stS ([stR e1, stF].filter (fun e => e.ino != stS.ino)) = [stR e1, stF, stS] := rfl
theorem st_ok (e1 : Value) : okB 9 4 9 [stR e1, stF, stS] = true := by kernel_rfl

set_option maxRecDepth 100000 in
set_option maxHeartbeats 8000000 in
theorem small13_any (w : World) : Calls Tryz.prog 26 #[] w fun e w' => ∃ y e1, e = .returned (.agg (fsC 9 4 9 y)) ∧ Nds w' y [stR e1, stF, stS] ∧ Below w.heap.size w w' := by
  have bR := Blk.new w 24 (fsC 0 0 0 (.slice none 0 0))
  have hB0 := alloc_below w (.cells (fsC 0 0 0 (.slice none 0 0)) 24)
  go_enter Tryz.func26, Tryz.ntmps26
  go_wp2_with fail
  refine (refNewT_any 9 4 _).mono ?_
  rintro e w1 ⟨v1, rfl, n1, b1⟩
  obtain ⟨a1, c1, rfl⟩ := nds_slice n1
  replace bR := bR.next b1
  have hB := hB0.trans (b1.mono hB0.size)
  have hR1 := bR.lt
  have bF := (Blk.new w1 24 (fsC 9 4 9 (.slice a1 1 c1))).alloc (.cells (entsV [([102], 4), ([115], 5)]).toArray 74)
  have bE := Blk.new (w1.alloc (.cells (fsC 9 4 9 (.slice a1 1 c1)) 24)) 74 (entsV [([102], 4), ([115], 5)]).toArray
  have hS : Below w1.heap.size w1 ((w1.alloc (.cells (fsC 9 4 9 (.slice a1 1 c1)) 24)).alloc (.cells (entsV [([102], 4), ([115], 5)]).toArray 74)) := (alloc_below w1 _).alloc (by simp) _
  simp only [World.size_alloc] at bE
  have hEn := blk_ents (L := [([102], 4), ([115], 5)]) bE (by decide)
  replace n1 := n1.below hS
  replace bR := bR.next hS
  replace hB := hB.trans (hS.mono hB.size)
  clear b1 hS hB0
  go_wp2_with fail
  refine (refSetP_any 9 4 9 [rootN] (stR (.slice (some ⟨w1.heap.size + 1, 0, none⟩) 2 2)) _ _ n1 hEn (by decide)).mono ?_
  rintro e w2 ⟨v2, rfl, hnew⟩
  rw [st_1] at hnew
  have b2 := hnew.2
  obtain ⟨a2, c2, rfl⟩ := own_slice hnew.1
  replace bF := bF.next b2
  replace bE := bE.next b2
  replace bR := bR.next b2
  replace hB := hB.trans (b2.mono hB.size)
  have hfl : w1.heap.size < ((w1.alloc (.cells (fsC 9 4 9 (.slice a1 1 c1)) 24)).alloc (.cells (entsV [([102], 4), ([115], 5)]).toArray 74)).heap.size := by simp; omega
  obtain ⟨⟨p0, p1, p2, p3⟩, f0, f1, f2, f3⟩ := bF.four
  obtain ⟨W2, hW2, bF4, hg4⟩ := bF.put4 (.int .i64 9) (.int .i64 4) (.int .i64 9) (.slice a2 1 c2)
  replace bE := bE.kept hg4 (by simp)
  replace bR := bR.kept hg4 (by simp; omega)
  have hEn4 := blk_ents (L := [([102], 4), ([115], 5)]) bE (by decide)
  replace hB := below_grown hB hg4 (Nat.le_refl _) (by omega)
  have n2 : Nds W2 (.slice a2 1 c2) [stR (.slice (some ⟨w1.heap.size + 1, 0, none⟩) 2 2)] := own_nds (hnew.1.kept hg4 (own_not hnew.1 hfl)) fun x hx => by rw [List.mem_singleton.1 hx]; exact hEn4
  clear hnew b2 bF hEn hfl n1 hEn4
  generalize w1.heap.size = BF at *
  obtain ⟨⟨q0, q1, q2, q3⟩, _⟩ := bF4.four
  have hfl := bF4.lt
  go_wp2_with fail
  clear p0 p1 p2 p3 q0 q1 q2 q3 f0 f1 f2 f3 hW2
  refine (refSetP_any 9 4 9 [stR (.slice (some ⟨BF + 1, 0, none⟩) 2 2)] stF _ _ n2 (Ents.nil_ _) (by simp)).mono ?_
  rintro e w4 ⟨v4, rfl, hnew⟩
  rw [st_2] at hnew
  have b4 := hnew.2
  obtain ⟨a4, c4, rfl⟩ := own_slice hnew.1
  replace bF4 := bF4.next b4
  replace bE := bE.next b4
  replace bR := bR.next b4
  replace hB := hB.trans (b4.mono hB.size)
  obtain ⟨⟨p0, p1, p2, p3⟩, f0, f1, f2, f3⟩ := bF4.four
  obtain ⟨W4, hW4, bF6, hg6⟩ := bF4.put4 (.int .i64 9) (.int .i64 4) (.int .i64 9) (.slice a4 2 c4)
  replace bE := bE.kept hg6 (by simp)
  replace bR := bR.kept hg6 (by simp; omega)
  have hEn1 := blk_ents (L := [([102], 4), ([115], 5)]) bE (by decide)
  replace hB := below_grown hB hg6 (Nat.le_refl _) (by omega)
  have n4 : Nds W4 (.slice a4 2 c4) [stR (.slice (some ⟨BF + 1, 0, none⟩) 2 2), stF] := own_nds (hnew.1.kept hg6 (own_not hnew.1 hfl)) fun x hx => by
    simp at hx
    rcases hx with rfl | rfl
    · exact hEn1
    · exact Ents.nil_ _
  clear hnew b4 bF4 hfl n2 hEn1
  obtain ⟨⟨q0, q1, q2, q3⟩, _⟩ := bF6.four
  have hfl := bR.lt
  go_wp2_with fail
  clear p0 p1 p2 p3 q0 q1 q2 q3 f0 f1 f2 f3 hW4
  refine (refSetP_any 9 4 9 [stR (.slice (some ⟨BF + 1, 0, none⟩) 2 2), stF] stS _ _ n4 (Ents.nil_ _) (by simp)).mono ?_
  rintro e w5 ⟨v5, rfl, hnew⟩
  rw [st_3] at hnew
  have b5 := hnew.2
  obtain ⟨a5, c5, rfl⟩ := own_slice hnew.1
  replace bE := bE.next b5
  replace bR := bR.next b5
  replace hB := hB.trans (b5.mono hB.size)
  obtain ⟨⟨p0, p1, p2, p3⟩, f0, f1, f2, f3⟩ := bR.four
  obtain ⟨W5, hW5, bR2, hg7⟩ := bR.put4 (.int .i64 9) (.int .i64 4) (.int .i64 9) (.slice a5 3 c5)
  replace bE := bE.kept hg7 (by simp; omega)
  have hEn1 := blk_ents (L := [([102], 4), ([115], 5)]) bE (by decide)
  replace hB := below_grown hB hg7 (Nat.le_refl _) (Nat.le_refl _)
  have n5 : Nds W5 (.slice a5 3 c5) [stR (.slice (some ⟨BF + 1, 0, none⟩) 2 2), stF, stS] := own_nds (hnew.1.kept hg7 (own_not hnew.1 hfl)) fun x hx => by
    simp at hx
    rcases hx with rfl | rfl | rfl
    · exact hEn1
    · exact Ents.nil_ _
    · exact Ents.nil_ _
  clear hnew b5 bF6 n4 hEn1
  obtain ⟨⟨q0, q1, q2, q3⟩, _⟩ := bR2.four
  go_wp2
  refine bodyPost_ret (v := .agg (fsC 9 4 9 (.slice a5 3 c5))) (by simp [results, Tryz.f26, go_sem, q0, q1, q2, q3]) rfl ?_
  exact ⟨_, _, rfl, n5, hB⟩
end Go.Proofs.YtkipplkaffpkjaaGreat
