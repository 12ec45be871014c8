import Derived.Test.YtoejjdebfjepaaaGreatQWalkP14
import Derived.Test.YtoejjdebfjepaaaGreatQMWalkK05
import Derived.Test.YtoejjdebfjepaaaGreatQMWalkB03
set_option linter.unusedVariables false
set_option linter.unusedSimpArgs false
/- Walks: the statements' small file system. -/
set_option linter.unusedVariables false
set_option linter.unusedSimpArgs false
namespace Go.Proofs.YtoejjdebfjepaaaGreat
open Go.RowKit
set_option linter.unusedVariables false

def soR (ev : Value) : Nd := ⟨1, 2, 0, [], 1, ev, [([100], 3), ([102], 4)]⟩
def soD (ev : Value) : Nd := ⟨3, 2, 1, [], 1, ev, [([101], 5)]⟩
def soE : Nd := ⟨5, 2, 1, [], 3, .slice none 0 0, []⟩
def soF : Nd := ⟨4, 1, 1, [], 0, .slice none 0 0, []⟩
def soL (e1 e2 : Value) : List Nd := [soR e1, soD e2, soF, soE]
theorem so_1 (e1 : Value) : finN (soR e1) ([rootN].filter (fun e => e.ino != (soR e1).ino)) = [soR e1] := rfl
theorem so_2 (e1 e2 : Value) : finN (soD e2) ([soR e1].filter (fun e => e.ino != (soD e2).ino)) = [soR e1, soD e2] := rfl
theorem so_3 (e1 e2 : Value) : finN soE ([soR e1, soD e2].filter (fun e => e.ino != soE.ino)) = [soR e1, soD e2, soE] := rfl
theorem so_4 (e1 e2 : Value) : finN soF ([soR e1, soD e2, soE].filter (fun e => e.ino != soF.ino)) = [soR e1, soD e2, soF, soE] := rfl
theorem so_ok (e1 e2 : Value) : okB 9 9 9 (soL e1 e2) = true := by kernel_rfl

set_option maxRecDepth 100000 in
set_option maxHeartbeats 8000000 in
theorem small14_any (w : World) : Calls Tryz.prog 25 #[] w fun e w' => ∃ y e1 e2, e = .returned (.agg (fsC 9 9 9 y)) ∧ Nds w' y (soL e1 e2) ∧ Below w.heap.size w w' := by
  have bR := Blk.new w 24 (fsC 0 0 0 (.slice none 0 0))
  have hB0 := alloc_below w (.cells (fsC 0 0 0 (.slice none 0 0)) 24)
  go_enter Tryz.func25, Tryz.ntmps25
  go_wp2_with fail
  refine (refNewT_any 9 9 _).mono ?_
  rintro e w1 ⟨v1, rfl, n1, b1⟩
  obtain ⟨a1, c1, rfl⟩ := nds_slice n1
  replace bR := bR.next b1
  have hB := hB0.trans (b1.mono hB0.size)
  have hR1 := bR.lt
  have bF := (Blk.new w1 24 (fsC 9 9 9 (.slice a1 1 c1))).alloc (.cells (entsV [([100], 3), ([102], 4)]).toArray 76)
  have bE := Blk.new (w1.alloc (.cells (fsC 9 9 9 (.slice a1 1 c1)) 24)) 76 (entsV [([100], 3), ([102], 4)]).toArray
  have hS : Below w1.heap.size w1 ((w1.alloc (.cells (fsC 9 9 9 (.slice a1 1 c1)) 24)).alloc (.cells (entsV [([100], 3), ([102], 4)]).toArray 76)) := (alloc_below w1 _).alloc (by simp) _
  simp only [World.size_alloc] at bE
  have hEn := blk_ents (L := [([100], 3), ([102], 4)]) bE (by decide)
  replace n1 := n1.below hS
  replace bR := bR.next hS
  replace hB := hB.trans (hS.mono hB.size)
  clear b1 hS hB0
  go_wp2_with fail
  refine (refSetP_any 9 9 9 [rootN] (soR (.slice (some ⟨w1.heap.size + 1, 0, none⟩) 2 2)) _ _ n1 hEn (by decide)).mono ?_
  rintro e w2 ⟨v2, rfl, hnew⟩
  rw [so_1] at hnew
  have b2 := hnew.2
  obtain ⟨a2, c2, rfl⟩ := own_slice hnew.1
  replace bF := bF.next b2
  replace bE := bE.next b2
  replace bR := bR.next b2
  replace hB := hB.trans (b2.mono hB.size)
  have hfl : w1.heap.size < ((w1.alloc (.cells (fsC 9 9 9 (.slice a1 1 c1)) 24)).alloc (.cells (entsV [([100], 3), ([102], 4)]).toArray 76)).heap.size := by simp; omega
  obtain ⟨⟨p0, p1, p2, p3⟩, f0, f1, f2, f3⟩ := bF.four
  obtain ⟨W2, hW2, bF4, hg4⟩ := bF.put4 (.int .i64 9) (.int .i64 9) (.int .i64 9) (.slice a2 1 c2)
  replace bE := bE.kept hg4 (by simp)
  replace bR := bR.kept hg4 (by simp; omega)
  have hEn4 := blk_ents (L := [([100], 3), ([102], 4)]) bE (by decide)
  replace hB := below_grown hB hg4 (Nat.le_refl _) (by omega)
  have n2 : Nds W2 (.slice a2 1 c2) [soR (.slice (some ⟨w1.heap.size + 1, 0, none⟩) 2 2)] := own_nds (hnew.1.kept hg4 (own_not hnew.1 hfl)) fun x hx => by rw [List.mem_singleton.1 hx]; exact hEn4
  clear hnew b2 bF hEn hfl n1 hEn4
  generalize w1.heap.size = BF at *
  obtain ⟨⟨q0, q1, q2, q3⟩, _⟩ := bF4.four
  have bE2 := Blk.new W2 76 (entsV [([101], 5)]).toArray
  have hS := alloc_below W2 (.cells (entsV [([101], 5)]).toArray 76)
  have hEn2 := blk_ents (L := [([101], 5)]) bE2 (by decide)
  have hBF2 := bF4.lt
  replace bF4 := bF4.next hS
  replace bE := bE.next hS
  replace bR := bR.next hS
  replace n2 := n2.below hS
  replace hB := hB.trans (hS.mono hB.size)
  have hfl := bF4.lt
  go_wp2_with fail
  clear p0 p1 p2 p3 q0 q1 q2 q3 f0 f1 f2 f3 hW2
  refine (refSetP_any 9 9 9 [soR (.slice (some ⟨BF + 1, 0, none⟩) 2 2)] (soD (.slice (some ⟨W2.heap.size, 0, none⟩) 1 1)) _ _ n2 hEn2 (by simp)).mono ?_
  rintro e w3 ⟨v3, rfl, hnew⟩
  rw [so_2] at hnew
  have b3 := hnew.2
  obtain ⟨a3, c3, rfl⟩ := own_slice hnew.1
  have hBE2 : BF ≠ W2.heap.size := by omega
  generalize W2.heap.size = BE at *
  replace bF4 := bF4.next b3
  replace bE := bE.next b3
  replace bE2 := bE2.next b3
  replace bR := bR.next b3
  replace hB := hB.trans (b3.mono hB.size)
  obtain ⟨⟨p0, p1, p2, p3⟩, f0, f1, f2, f3⟩ := bF4.four
  obtain ⟨W3, hW3, bF5, hg5⟩ := bF4.put4 (.int .i64 9) (.int .i64 9) (.int .i64 9) (.slice a3 2 c3)
  replace bE := bE.kept hg5 (by simp)
  replace bE2 := bE2.kept hg5 (by simpa using fun h => hBE2 h.symm)
  replace bR := bR.kept hg5 (by simp; omega)
  have hEn1 := blk_ents (L := [([100], 3), ([102], 4)]) bE (by decide)
  have hEn3 := blk_ents (L := [([101], 5)]) bE2 (by decide)
  replace hB := below_grown hB hg5 (Nat.le_refl _) (by omega)
  have n3 : Nds W3 (.slice a3 2 c3) [soR (.slice (some ⟨BF + 1, 0, none⟩) 2 2), soD (.slice (some ⟨BE, 0, none⟩) 1 1)] := own_nds (hnew.1.kept hg5 (own_not hnew.1 hfl)) fun x hx => by
    simp at hx
    rcases hx with rfl | rfl
    · exact hEn1
    · exact hEn3
  clear hnew b3 bF4 hEn2 hfl n2 hS hEn1 hEn3
  obtain ⟨⟨q0, q1, q2, q3⟩, _⟩ := bF5.four
  have hfl := bF5.lt
  go_wp2_with fail
  clear p0 p1 p2 p3 q0 q1 q2 q3 f0 f1 f2 f3 hW3
  refine (refSetP_any 9 9 9 [soR (.slice (some ⟨BF + 1, 0, none⟩) 2 2), soD (.slice (some ⟨BE, 0, none⟩) 1 1)] soE _ _ n3 (Ents.nil_ _) (by simp)).mono ?_
  rintro e w4 ⟨v4, rfl, hnew⟩
  rw [so_3] at hnew
  have b4 := hnew.2
  obtain ⟨a4, c4, rfl⟩ := own_slice hnew.1
  replace bF5 := bF5.next b4
  replace bE := bE.next b4
  replace bE2 := bE2.next b4
  replace bR := bR.next b4
  replace hB := hB.trans (b4.mono hB.size)
  obtain ⟨⟨p0, p1, p2, p3⟩, f0, f1, f2, f3⟩ := bF5.four
  obtain ⟨W4, hW4, bF6, hg6⟩ := bF5.put4 (.int .i64 9) (.int .i64 9) (.int .i64 9) (.slice a4 3 c4)
  replace bE := bE.kept hg6 (by simp)
  replace bE2 := bE2.kept hg6 (by simpa using fun h => hBE2 h.symm)
  replace bR := bR.kept hg6 (by simp; omega)
  have hEn1 := blk_ents (L := [([100], 3), ([102], 4)]) bE (by decide)
  have hEn3 := blk_ents (L := [([101], 5)]) bE2 (by decide)
  replace hB := below_grown hB hg6 (Nat.le_refl _) (by omega)
  have n4 : Nds W4 (.slice a4 3 c4) [soR (.slice (some ⟨BF + 1, 0, none⟩) 2 2), soD (.slice (some ⟨BE, 0, none⟩) 1 1), soE] := own_nds (hnew.1.kept hg6 (own_not hnew.1 hfl)) fun x hx => by
    simp at hx
    rcases hx with rfl | rfl | rfl
    · exact hEn1
    · exact hEn3
    · exact Ents.nil_ _
  clear hnew b4 bF5 hfl n3 hEn1 hEn3
  obtain ⟨⟨q0, q1, q2, q3⟩, _⟩ := bF6.four
  have hfl := bR.lt
  go_wp2_with fail
  clear p0 p1 p2 p3 q0 q1 q2 q3 f0 f1 f2 f3 hW4
  refine (refSetP_any 9 9 9 [soR (.slice (some ⟨BF + 1, 0, none⟩) 2 2), soD (.slice (some ⟨BE, 0, none⟩) 1 1), soE] soF _ _ n4 (Ents.nil_ _) (by simp)).mono ?_
  rintro e w5 ⟨v5, rfl, hnew⟩
  rw [so_4] at hnew
  have b5 := hnew.2
  obtain ⟨a5, c5, rfl⟩ := own_slice hnew.1
  replace bE := bE.next b5
  replace bE2 := bE2.next b5
  replace bR := bR.next b5
  replace hB := hB.trans (b5.mono hB.size)
  obtain ⟨⟨p0, p1, p2, p3⟩, f0, f1, f2, f3⟩ := bR.four
  obtain ⟨W5, hW5, bR2, hg7⟩ := bR.put4 (.int .i64 9) (.int .i64 9) (.int .i64 9) (.slice a5 4 c5)
  replace bE := bE.kept hg7 (by simp; omega)
  replace bE2 := bE2.kept hg7 (by simp; omega)
  have hEn1 := blk_ents (L := [([100], 3), ([102], 4)]) bE (by decide)
  have hEn3 := blk_ents (L := [([101], 5)]) bE2 (by decide)
  replace hB := below_grown hB hg7 (Nat.le_refl _) (Nat.le_refl _)
  have n5 : Nds W5 (.slice a5 4 c5) (soL (.slice (some ⟨BF + 1, 0, none⟩) 2 2) (.slice (some ⟨BE, 0, none⟩) 1 1)) := own_nds (hnew.1.kept hg7 (own_not hnew.1 hfl)) fun x hx => by
    simp [soL] at hx
    rcases hx with rfl | rfl | rfl | rfl
    · exact hEn1
    · exact hEn3
    · exact Ents.nil_ _
    · exact Ents.nil_ _
  clear hnew b5 bF6 n4 hEn1 hEn3
  obtain ⟨⟨q0, q1, q2, q3⟩, _⟩ := bR2.four
  go_wp2
  refine bodyPost_ret (v := .agg (fsC 9 9 9 (.slice a5 4 c5))) (by simp [results, Tryz.f25, go_sem, q0, q1, q2, q3]) rfl ?_
  exact ⟨_, _, _, rfl, n5, hB⟩
end Go.Proofs.YtoejjdebfjepaaaGreat
