/- Walks: awake. -/
import Derived.Test.YtbdgcpimnkieiaaQWalkQ09
import Derived.Test.YtbdgcpimnkieiaaQWalkR09
import Derived.Test.YtbdgcpimnkieiaaQWalkH05
import Derived.Test.YtbdgcpimnkieiaaQWalkF07
import Derived.Laws.StructEq
import Derived.Deep.RegionHeld3
namespace Go.Proofs.Ytbdgcpimnkieiaa
open Go.RowKit
set_option linter.unusedVariables false

def awR (ev : Value) : Nd := ⟨1, 2, 0, [], 1, ev, [([100], 3)]⟩
def awD : Nd := ⟨3, 2, 1, [], 1, .slice none 0 0, []⟩
def awL (ev : Value) : List Nd := [awR ev, awD]
theorem aw_set1 (ev : Value) : finN (awR ev) ([rootN].filter (fun e => e.ino != (awR ev).ino)) = [awR ev] := rfl
theorem aw_set2 (ev : Value) : finN awD ([awR ev].filter (fun e => e.ino != awD.ino)) = [awR ev, awD] := rfl
theorem aw_ok (ev : Value) : okB 9 9 9 (awL ev) = true := by kernel_rfl
theorem aw_at (p : List UInt8) (r : Sp × Int) (ev v : Value) (w : World) (hv : Nds w v (awL ev)) (hp : p.length ≤ 100) (h : atP (awL ev) p = r) :
    Calls Try.prog 8 #[.agg (fsC 9 9 9 v), .string ⟨p.toArray⟩] w fun e w' => e = .returned (.tuple #[.agg (spC r.1), .int .i64 r.2]) ∧ Below w.heap.size w w' := by
  subst h
  exact At_any 9 9 9 _ p v w hv (by omega) (calm_of (aw_ok ev))
theorem aw_get (p : List UInt8) (r : Nd × Int) (ev v : Value) (w : World) (hv : Nds w v (awL ev)) (hp : p.length ≤ 100) (h : getP (awL ev) p = r) :
    Calls Try.prog 10 #[.agg (fsC 9 9 9 v), .string ⟨p.toArray⟩] w fun e w' => e = .returned (.tuple #[.agg (ndC r.1), .int .i64 r.2]) ∧ Below w.heap.size w w' := by
  subst h
  exact GetP_any 9 9 9 _ p v w hv (by omega) (calm_of (aw_ok ev)) (leads_in (aw_ok ev) p)
def awD2 (ev : Value) : Nd := ⟨3, 2, 1, [], 1, ev, [([102], 3)]⟩
def awM (ev e2 : Value) : List Nd := [awR ev, awD2 e2]
theorem aw_put (ev v : Value) (w : World) (hv : Nds w v (awL ev)) :
    Calls Try.prog 14 #[.agg (fsC 9 9 9 v), .string ⟨#[47, 100, 47, 102]⟩, .int .i64 3] w fun e w' => ∃ y e2, e = .returned (.agg (fsC 9 9 9 y)) ∧ Nds w' y (awM ev e2) ∧ Below w.heap.size w w' :=
  PutP_any 9 9 9 3 (awL ev) [47, 100, 47, 102] v w hv (by decide) (calm_of (aw_ok ev)) (by kernel_rfl) (show ¬ (3 : Int) = 0 by decide)
theorem aw_take (ev e2 v : Value) (w : World) (hv : Nds w v (awM ev e2)) :
    Calls Try.prog 16 #[.agg (fsC 9 9 9 v), .string ⟨#[47, 100, 47, 102]⟩] w fun e w' => ∃ y e3, e = .returned (.agg (fsC 9 9 9 y)) ∧ Nds w' y [awR ev, ⟨3, 2, 1, [], 1, e3, []⟩] ∧ Below w.heap.size w w' := by
  have hc : Calm (awM ev e2) := by
    refine ⟨?_, ?_, ?_, by simp [awM]⟩
    · simp [awM, awR, awD2]
    · intro x hx
      simp [awM] at hx
      rcases hx with rfl | rfl <;> kernel_rfl
    · intro x hx
      simp [awM] at hx
      rcases hx with rfl | rfl
      · exact ⟨by simp [awR], by simp [awR], by intro e he; simp [awR] at he; subst he; decide⟩
      · exact ⟨by simp [awD2], by simp [awD2], by intro e he; simp [awD2] at he; subst he; decide⟩
  exact TakeP_any 9 9 9 (awM ev e2) [47, 100, 47, 102] v w hv (by decide) hc (by kernel_rfl) (show ¬ (3 : Int) = 0 by decide)
theorem aw_same (ev e3 va vb : Value) (w : World) (ha : Nds w va [awR ev, ⟨3, 2, 1, [], 1, e3, []⟩]) (hb : Nds w vb (awL ev)) : Calls Try.prog 13 #[.agg (fsC 9 9 9 va), .agg (fsC 9 9 9 vb)] w fun e w' => e = .returned (.bool true) ∧ Below w.heap.size w w' := by
  have := refTab_any 9 9 9 9 9 9 _ _ _ _ w ha hb
  rwa [show tabB 9 9 9 [awR ev, ⟨3, 2, 1, [], 1, e3, []⟩] 9 9 9 (awL ev) = true from by kernel_rfl] at this

set_option maxRecDepth 100000 in
set_option maxHeartbeats 8000000 in
theorem awake_any (w : World) : Calls Try.prog 6 #[] w fun e w' => e = .returned (.bool true) ∧ Below w.heap.size w w' := by
  go_enter Try.func6, Try.ntmps6
  go_wp2_with fail
  refine (refNewT_any 9 9 _).mono ?_
  rintro e w1 ⟨v1, rfl, n1, hB⟩
  obtain ⟨a1, c1, rfl⟩ := nds_slice n1
  have bF := (Blk.new w1 24 (fsC 9 9 2 (.slice a1 1 c1))).set 2 (.int .i64 9)
  rw [show (fsC 9 9 2 (.slice a1 1 c1)).setIfInBounds 2 (.int .i64 9) = fsC 9 9 9 (.slice a1 1 c1) from rfl] at bF
  obtain ⟨⟨p0, p1, p2, p3⟩, _⟩ := bF.four
  go_wp2_with fail
  have hB2 : Below w.heap.size w ((w1.alloc (.cells (fsC 9 9 9 (.slice a1 1 c1)) 24)).alloc (.cells (entsV [([100], 3)]).toArray 58)) := (hB.alloc hB.size _).alloc (by have := hB.size; simp; omega) _
  have hS : Below w1.heap.size w1 ((w1.alloc (.cells (fsC 9 9 9 (.slice a1 1 c1)) 24)).alloc (.cells (entsV [([100], 3)]).toArray 58)) := (alloc_below w1 _).alloc (by simp) _
  have bE := Blk.new (w1.alloc (.cells (fsC 9 9 9 (.slice a1 1 c1)) 24)) 58 (entsV [([100], 3)]).toArray
  have bF2 := (Blk.new w1 24 (fsC 9 9 9 (.slice a1 1 c1))).alloc (.cells (entsV [([100], 3)]).toArray 58)
  simp only [World.size_alloc] at bE
  have hEn := blk_ents (L := [([100], 3)]) bE (by decide)
  have hl1 := hB.size
  have n1' := n1.below hS
  clear n1 bF p0 p1 p2 p3 hS
  refine (refSetP_any 9 9 9 [rootN] (awR (.slice (some ⟨w1.heap.size + 1, 0, none⟩) 1 1)) _ _ n1' hEn (by decide)).mono ?_
  rintro e w2 ⟨v2, rfl, hnew⟩
  rw [aw_set1] at hnew
  have b2 := hnew.2
  obtain ⟨a2, c2, rfl⟩ := own_slice hnew.1
  have bF3 := bF2.next b2
  have bE3 := bE.next b2
  have hB3 := hB2.trans (b2.mono hB2.size)
  have hfl : w1.heap.size < ((w1.alloc (.cells (fsC 9 9 9 (.slice a1 1 c1)) 24)).alloc (.cells (entsV [([100], 3)]).toArray 58)).heap.size := by simp; omega
  obtain ⟨⟨p0, p1, p2, p3⟩, e0, e1, e2, e3⟩ := bF3.four
  obtain ⟨W2, hW2, bF4, hg4⟩ := bF3.put4 (.int .i64 9) (.int .i64 9) (.int .i64 9) (.slice a2 1 c2)
  have bE4 := bE3.kept hg4 (by simp)
  have hEn4 := blk_ents (L := [([100], 3)]) bE4 (by decide)
  have hB4 := below_grown hB3 hg4 (Nat.le_refl _) hl1
  have n2 : Nds W2 (.slice a2 1 c2) [awR (.slice (some ⟨w1.heap.size + 1, 0, none⟩) 1 1)] := own_nds (hnew.1.kept hg4 (own_not hnew.1 hfl)) fun x hx => by rw [List.mem_singleton.1 hx]; exact hEn4
  generalize w1.heap.size = BF at *
  obtain ⟨⟨q0, q1, q2, q3⟩, _⟩ := bF4.four
  have hlW := bF4.lt
  clear hnew b2 bF2 bF3 bE bE3 hEn hB2 hB3 hfl n1'
  go_wp2_with fail
  clear p0 p1 p2 p3 q0 q1 q2 q3 e0 e1 e2 e3 hW2
  refine (refSetP_any 9 9 9 [awR (.slice (some ⟨BF + 1, 0, none⟩) 1 1)] awD _ _ n2 (Ents.nil_ _) (by simp)).mono ?_
  rintro e w3 ⟨v3, rfl, hnew⟩
  rw [aw_set2] at hnew
  have b3 := hnew.2
  obtain ⟨a3, c3, rfl⟩ := own_slice hnew.1
  have bF5 := bF4.next b3
  have bE5 := bE4.next b3
  have hB5 := hB4.trans (b3.mono hB4.size)
  obtain ⟨⟨p0, p1, p2, p3⟩, e0, e1, e2, e3⟩ := bF5.four
  obtain ⟨W3, hW3, bF6, hg6⟩ := bF5.put4 (.int .i64 9) (.int .i64 9) (.int .i64 9) (.slice a3 2 c3)
  have bE6 := bE5.kept hg6 (by simp)
  have hEn6 := blk_ents (L := [([100], 3)]) bE6 (by decide)
  have hB6 := below_grown hB5 hg6 (Nat.le_refl _) hl1
  have nV : Nds W3 (.slice a3 2 c3) (awL (.slice (some ⟨BF + 1, 0, none⟩) 1 1)) := own_nds (hnew.1.kept hg6 (own_not hnew.1 hlW)) fun x hx => by
    simp [awL] at hx
    rcases hx with rfl | rfl
    · exact hEn6
    · exact Ents.nil_ _
  generalize (Value.slice (some ⟨BF + 1, 0, none⟩) 1 1) = ev at *
  clear hnew b3 bF4 bF5 bE4 bE5 hEn4 hB4 hB5 n2 bE6 hEn6 hg4 hg6
  obtain ⟨⟨q0, q1, q2, q3⟩, _⟩ := bF6.four
  go_wp2_with fail
  clear p0 p1 p2 p3 q0 q1 q2 q3 e0 e1 e2 e3 hW3
  replace hB := hB6
  have bF := bF6
  clear hB6 bF6
  generalize W3 = A0 at *
  refine (aw_at [47, 100, 47, 102] (⟨3, [102], 0⟩, 0) ev _ _ nV (by decide) (by kernel_rfl)).mono ?_
  rintro e u1 ⟨rfl, b1⟩
  have s1 := alloc_below u1 (.cells (spC ⟨3, [102], 0⟩) 28)
  have bA := Blk.new u1 28 (spC ⟨3, [102], 0⟩)
  (replace bF := bF.next b1; replace nV := nV.below b1; replace hB := hB.trans (b1.mono hB.size))
  (replace bF := bF.next s1; replace nV := nV.below s1; replace hB := hB.trans (s1.mono hB.size))
  clear b1 s1
  obtain ⟨⟨p0, p1, p2, p3⟩, _⟩ := bF.four
  go_wp2_with fail; refine (aw_at [47] (⟨0, [], 1⟩, 0) ev _ _ nV (by decide) (by kernel_rfl)).mono ?_; rintro e u2 ⟨rfl, b2⟩
  clear p0 p1 p2 p3
  have s2 := alloc_below u2 (.cells (spC ⟨0, [], 1⟩) 28)
  have bC := Blk.new u2 28 (spC ⟨0, [], 1⟩)
  (replace bF := bF.next b2; replace nV := nV.below b2; replace hB := hB.trans (b2.mono hB.size))
  replace bA := bA.next b2
  (replace bF := bF.next s2; replace nV := nV.below s2; replace hB := hB.trans (s2.mono hB.size))
  replace bA := bA.next s2
  clear b2 s2
  obtain ⟨⟨p0, p1, p2, p3⟩, _⟩ := bF.four
  go_wp2_with fail; refine (aw_at [100] (⟨0, [], 0⟩, 9) ev _ _ nV (by decide) (by kernel_rfl)).mono ?_; rintro e u3 ⟨rfl, b3⟩
  clear p0 p1 p2 p3
  have s3 := alloc_below u3 (.cells (spC ⟨0, [], 0⟩) 28)
  (replace bF := bF.next b3; replace nV := nV.below b3; replace hB := hB.trans (b3.mono hB.size))
  replace bA := bA.next b3
  replace bC := bC.next b3
  (replace bF := bF.next s3; replace nV := nV.below s3; replace hB := hB.trans (s3.mono hB.size))
  replace bA := bA.next s3
  replace bC := bC.next s3
  clear b3 s3
  obtain ⟨⟨p0, p1, p2, p3⟩, _⟩ := bF.four
  go_wp2_with fail; refine (aw_at [47, 120, 47, 121] (⟨0, [], 0⟩, 1) ev _ _ nV (by decide) (by kernel_rfl)).mono ?_; rintro e u4 ⟨rfl, b4⟩
  clear p0 p1 p2 p3
  have s4 := alloc_below u4 (.cells (spC ⟨0, [], 0⟩) 28)
  (replace bF := bF.next b4; replace nV := nV.below b4; replace hB := hB.trans (b4.mono hB.size))
  replace bA := bA.next b4
  replace bC := bC.next b4
  (replace bF := bF.next s4; replace nV := nV.below s4; replace hB := hB.trans (s4.mono hB.size))
  replace bA := bA.next s4
  replace bC := bC.next s4
  clear b4 s4
  obtain ⟨⟨p0, p1, p2, p3⟩, _⟩ := bF.four
  go_wp2_with fail; refine (aw_get [47, 100] (⟨3, 2, 1, [], 1, .slice none 0 0, []⟩, 0) ev _ _ nV (by decide) (by kernel_rfl)).mono ?_; rintro e u5 ⟨rfl, b5⟩
  clear p0 p1 p2 p3
  have s5 := alloc_below u5 (.cells (ndC ⟨3, 2, 1, [], 1, .slice none 0 0, []⟩) 36)
  have bX := Blk.new u5 36 (ndC ⟨3, 2, 1, [], 1, .slice none 0 0, []⟩)
  (replace bF := bF.next b5; replace nV := nV.below b5; replace hB := hB.trans (b5.mono hB.size))
  replace bA := bA.next b5
  replace bC := bC.next b5
  (replace bF := bF.next s5; replace nV := nV.below s5; replace hB := hB.trans (s5.mono hB.size))
  replace bA := bA.next s5
  replace bC := bC.next s5
  clear b5 s5
  obtain ⟨⟨p0, p1, p2, p3⟩, _⟩ := bF.four
  go_wp2_with fail; refine (aw_get [47, 100, 47, 102] (⟨0, 0, 0, [], 0, .slice none 0 0, []⟩, 1) ev _ _ nV (by decide) (by kernel_rfl)).mono ?_; rintro e u6 ⟨rfl, b6⟩
  clear p0 p1 p2 p3
  have s6 := alloc_below u6 (.cells (ndC ⟨0, 0, 0, [], 0, .slice none 0 0, []⟩) 36)
  (replace bF := bF.next b6; replace nV := nV.below b6; replace hB := hB.trans (b6.mono hB.size))
  replace bA := bA.next b6
  replace bC := bC.next b6
  replace bX := bX.next b6
  (replace bF := bF.next s6; replace nV := nV.below s6; replace hB := hB.trans (s6.mono hB.size))
  replace bA := bA.next s6
  replace bC := bC.next s6
  replace bX := bX.next s6
  clear b6 s6
  obtain ⟨⟨p0, p1, p2, p3⟩, _⟩ := bF.four
  go_wp2_with fail; refine (aw_put ev _ _ nV).mono ?_; rintro e u7 ⟨v7, e2, rfl, nM, b7⟩
  clear p0 p1 p2 p3
  obtain ⟨am, cm, rfl⟩ := nds_slice nM
  have he2 := nM.all (awD2 e2) (by simp [awM])
  obtain ⟨ae, ce, he3, _⟩ := he2
  have he4 : e2 = .slice ae 1 ce := he3
  clear he3
  subst he4
  have s7 := alloc_below u7 (.cells (fsC 9 9 9 (.slice am 2 cm)) 24)
  have bM := Blk.new u7 24 (fsC 9 9 9 (.slice am 2 cm))
  (replace bF := bF.next b7; replace nV := nV.below b7; replace hB := hB.trans (b7.mono hB.size))
  replace bA := bA.next b7
  replace bC := bC.next b7
  replace bX := bX.next b7
  (replace bF := bF.next s7; replace nV := nV.below s7; replace hB := hB.trans (s7.mono hB.size))
  replace bA := bA.next s7
  replace bC := bC.next s7
  replace bX := bX.next s7
  replace nM := nM.below s7
  clear b7 s7
  have hRG := refGetT_any 9 9 9 3 (awM ev (.slice ae 1 ce)) _ _ nM
  obtain ⟨⟨p0, p1, p2, p3⟩, _⟩ := bM.four
  go_wp2_with fail
  refine hRG.mono ?_
  rintro e u8 ⟨rfl, b8⟩
  clear hRG p0 p1 p2 p3
  rw [show getN (awM ev (.slice ae 1 ce)) 3 = ⟨3, 2, 1, [], 1, .slice ae 1 ce, [([102], 3)]⟩ from rfl, show hasN (awM ev (.slice ae 1 ce)) 3 = true from rfl]
  have s8 := alloc_below u8 (.cells (ndC ⟨3, 2, 1, [], 1, .slice ae 1 ce, [([102], 3)]⟩) 36)
  have bY := Blk.new u8 36 (ndC ⟨3, 2, 1, [], 1, .slice ae 1 ce, [([102], 3)]⟩)
  (replace bF := bF.next b8; replace nV := nV.below b8; replace hB := hB.trans (b8.mono hB.size))
  replace bA := bA.next b8
  replace bC := bC.next b8
  replace bX := bX.next b8
  replace nM := nM.below b8
  replace bM := bM.next b8
  (replace bF := bF.next s8; replace nV := nV.below s8; replace hB := hB.trans (s8.mono hB.size))
  replace bA := bA.next s8
  replace bC := bC.next s8
  replace bX := bX.next s8
  replace nM := nM.below s8
  replace bM := bM.next s8
  clear b8 s8
  go_upto_region 13 with fail
  generalize hA1 : u8.alloc _ = A1 at *
  have HMK : ∀ W, Below A1.heap.size A1 W → (W.cell? ⟨BF, 0, none⟩ = some (.int .i64 9) ∧ W.cell? ⟨BF, 1, none⟩ = some (.int .i64 9) ∧ W.cell? ⟨BF, 2, none⟩ = some (.int .i64 9) ∧ W.cell? ⟨BF, 3, none⟩ = some (.slice a3 2 c3) ∧ W.cell? ⟨u7.heap.size, 0, none⟩ = some (.int .i64 9) ∧ W.cell? ⟨u7.heap.size, 1, none⟩ = some (.int .i64 9) ∧ W.cell? ⟨u7.heap.size, 2, none⟩ = some (.int .i64 9) ∧ W.cell? ⟨u7.heap.size, 3, none⟩ = some (.slice am 2 cm) ∧ W.cell? ⟨u1.heap.size, 0, none⟩ = some (.int .i64 3) ∧ W.cell? ⟨u1.heap.size, 1, none⟩ = some (.string ⟨#[102]⟩) ∧ W.cell? ⟨u1.heap.size, 2, none⟩ = some (.int .i64 0) ∧ W.cell? ⟨u2.heap.size, 0, none⟩ = some (.int .i64 0) ∧ W.cell? ⟨u2.heap.size, 1, none⟩ = some (.string ⟨#[]⟩) ∧ W.cell? ⟨u2.heap.size, 2, none⟩ = some (.int .i64 1) ∧ W.cell? ⟨u5.heap.size, 0, none⟩ = some (.int .i64 3) ∧ W.cell? ⟨u8.heap.size, 5, none⟩ = some (.slice ae 1 ce)) := by
    intro W h
    obtain ⟨⟨x0, x1, x2, x3⟩, _⟩ := (bF.next h).four
    obtain ⟨⟨y0, y1, y2, y3⟩, _⟩ := (bM.next h).four
    obtain ⟨⟨z0, z1, z2⟩, _⟩ := (bA.next h).three
    obtain ⟨⟨t0, t1, t2⟩, _⟩ := (bC.next h).three
    exact ⟨x0, x1, x2, x3, y0, y1, y2, y3, z0, z1, z2, t0, t1, t2, (bX.next h).six.1.1, (bY.next h).six.1.2.2.2.2.2⟩
  have hq := (Below.refl A1.heap.size A1).drew
  clear hA1 bF bM bA bC bX bY
  go_region_held3 (fun W => W.cell? ⟨BF, 0, none⟩ = some (.int .i64 9) ∧ W.cell? ⟨BF, 1, none⟩ = some (.int .i64 9) ∧ W.cell? ⟨BF, 2, none⟩ = some (.int .i64 9) ∧ W.cell? ⟨BF, 3, none⟩ = some (.slice a3 2 c3) ∧ W.cell? ⟨u7.heap.size, 0, none⟩ = some (.int .i64 9) ∧ W.cell? ⟨u7.heap.size, 1, none⟩ = some (.int .i64 9) ∧ W.cell? ⟨u7.heap.size, 2, none⟩ = some (.int .i64 9) ∧ W.cell? ⟨u7.heap.size, 3, none⟩ = some (.slice am 2 cm) ∧ W.cell? ⟨u1.heap.size, 0, none⟩ = some (.int .i64 3) ∧ W.cell? ⟨u1.heap.size, 1, none⟩ = some (.string ⟨#[102]⟩) ∧ W.cell? ⟨u1.heap.size, 2, none⟩ = some (.int .i64 0) ∧ W.cell? ⟨u2.heap.size, 0, none⟩ = some (.int .i64 0) ∧ W.cell? ⟨u2.heap.size, 1, none⟩ = some (.string ⟨#[]⟩) ∧ W.cell? ⟨u2.heap.size, 2, none⟩ = some (.int .i64 1) ∧ W.cell? ⟨u5.heap.size, 0, none⟩ = some (.int .i64 3) ∧ W.cell? ⟨u8.heap.size, 5, none⟩ = some (.slice ae 1 ce))
    (exact HMK _ hq)
    (first
      | (go_at_call 16; refine (aw_take ev (.slice ae 1 ce) _ _ (nM.below hq)).mono ?_; rintro e wz ⟨y9, ev9, rfl, n9, bz⟩; obtain ⟨a9, c9, rfl⟩ := nds_slice n9; have hq := hq.trans (bz.mono hq.size))
      | (go_at_call 13; refine (aw_same ev ev9 _ _ _ n9 (nV.below hq)).mono ?_; rintro e wz ⟨rfl, bz⟩; have hq := hq.trans (bz.mono hq.size)))
  all_goals go_wp2
  all_goals go_ret
  all_goals exact ⟨rfl, hB.trans (hq.mono hB.size)⟩
end Go.Proofs.Ytbdgcpimnkieiaa
