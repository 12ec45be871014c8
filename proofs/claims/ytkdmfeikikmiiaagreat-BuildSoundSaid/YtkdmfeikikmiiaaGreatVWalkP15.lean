/- Walks: the program's Do, Run, Tree. -/
import Derived.Test.YtkdmfeikikmiiaaGreatVWalkO15
import Derived.Test.YtkdmfeikikmiiaaGreatVMap15
import Derived.Test.YtkdmfeikikmiiaaGreatVMWalkB15
import Derived.Deep.RegionHeld3
set_option linter.unusedVariables false
set_option linter.unusedSimpArgs false
namespace Go.Proofs.YtkdmfeikikmiiaaGreat
open Go.RowKit
set_option maxHeartbeats 8000000 in
set_option maxRecDepth 100000 in
theorem DoR_any (mi mb nx : Int) (l : List Nd) (base : List UInt8) (c : CallV) (v : Value) (w : World) (hv : Nds w v l) (hok : okB mi mb nx l = true) (hnx : nx < 1099511627776) (hb : base.length ≤ 20000) (hca : c.a.length ≤ 300) (hcb : c.b.length ≤ 300) (hcd : c.data.length ≤ 300) :
    Calls Tryz.prog 14 #[.agg (fsC mi mb nx v), .string ⟨base.toArray⟩, .agg (callC c)] w (DoneC mi mb nx l base c v w) := by
  obtain ⟨a, ca, rfl⟩ := nds_slice hv
  obtain ⟨o, A, B, D⟩ := c
  dsimp only at hca hcb hcd
  have bF := ((Blk.new w 28 (fsC mi mb nx (.slice a l.length ca))).alloc (.cells (callC ⟨o, A, B, D⟩) 44)).alloc (.cells (fsC 0 0 0 (.slice none 0 0)) 28)
  have bC := (Blk.new (w.alloc (.cells (fsC mi mb nx (.slice a l.length ca)) 28)) 44 (callC ⟨o, A, B, D⟩)).alloc (.cells (fsC 0 0 0 (.slice none 0 0)) 28)
  have bR := Blk.new ((w.alloc (.cells (fsC mi mb nx (.slice a l.length ca)) 28)).alloc (.cells (callC ⟨o, A, B, D⟩) 44)) 28 (fsC 0 0 0 (.slice none 0 0))
  have hB : Below w.heap.size w (((w.alloc (.cells (fsC mi mb nx (.slice a l.length ca)) 28)).alloc (.cells (callC ⟨o, A, B, D⟩) 44)).alloc (.cells (fsC 0 0 0 (.slice none 0 0)) 28)) := (((Below.refl _ w).alloc (Nat.le_refl _) _).alloc (by simp) _).alloc (by simp; omega) _
  simp only [World.size_alloc] at bC bR
  have HV := Lib.hid hv
  have HOK := Lib.hid hok
  clear hv hok
  obtain ⟨⟨p0, p1, p2, p3⟩, _⟩ := bF.four
  obtain ⟨⟨c0, c1, c2, c3⟩, _⟩ := bC.four
  dsimp only at c0 c1 c2 c3
  generalize hW0 : ((w.alloc (.cells (fsC mi mb nx (.slice a l.length ca)) 28)).alloc (.cells (callC ⟨o, A, B, D⟩) 44)).alloc (.cells (fsC 0 0 0 (.slice none 0 0)) 28) = W0 at *
  go_enter Tryz.func14, Tryz.ntmps14
  go_upto_region 1 with fail
  have HMK : ∀ W, Below W0.heap.size W0 W → W.cell? ⟨w.heap.size + 1, 0, none⟩ = some (.int .i64 o) := fun W h => ((bC.next h).cell 0).trans rfl
  have hq := Below.refl W0.heap.size W0
  have hdr : Below W0.heap.size W0 W0.drew := hq.drew
  go_cut [8, 9] from 10 (fun s8 s9 wc => ∃ MB m1 m2 m3 m5 m6 m7 m8, s8 = pickV o (cloV 64 m1) (cloV 68 m2) (cloV 68 m3) (fnV 40) (cloV 75 m5) (cloV 64 m6) (cloV 64 m7) (cloV 75 m8) ∧ s9 = .bool (decide (1 ≤ o ∧ o ≤ 8)) ∧ CallsM wc MB m1 m2 m3 m5 m6 m7 m8 ∧ Below W0.heap.size W0 wc)
  case first =>
    clear p0 p1 p2 p3 c0 c1 c2 c3
    go_region_held3 (fun W => W.cell? ⟨w.heap.size + 1, 0, none⟩ = some (.int .i64 o))
      (first | with_reducible exact HMK _ hq | with_reducible exact HMK _ hdr)
      (first
        | (go_at_call 19; refine (calls_any _).mono ?_; rintro e w6 ⟨MB, m1, m2, m3, m5, m6, m7, m8, rfl, hCM, b6⟩; have hlk := look_do o _ _ _ _ _ _ _ _ hCM.own; have hq := hdr.trans (b6.mono hdr.size)))
    all_goals (go_wp2_with fail; go_meet)
    all_goals exact ⟨MB, m1, m2, m3, m5, m6, m7, m8, rfl, by rw [Bool.decide_and], hCM, hq⟩
  case rest =>
    obtain ⟨MB, m1, m2, m3, m5, m6, m7, m8, hs8, hs9, hCM, hbc⟩ := hcut
    rename World => W1
    clear p0 p1 p2 p3 c0 c1 c2 c3 hW0 HMK hq hdr
    have bF1 := bF.next hbc
    have bC1 := bC.next hbc
    have bR1 := bR.next hbc
    have hB1 := hB.trans (hbc.mono hB.size)
    clear bF bC bR hbc
    have hV1 := HV.out.below hB1
    have hRl := bR1.lt
    obtain ⟨⟨p0, p1, p2, p3⟩, _⟩ := bF1.four
    obtain ⟨⟨c0, c1, c2, c3⟩, _⟩ := bC1.four
    dsimp only at c0 c1 c2 c3
    by_cases ho : 1 ≤ o ∧ o ≤ 8
    · have h8 : o = 1 ∨ o = 2 ∨ o = 3 ∨ o = 4 ∨ o = 5 ∨ o = 6 ∨ o = 7 ∨ o = 8 := by omega
      clear ho
      rcases h8 with rfl | rfl | rfl | rfl | rfl | rfl | rfl | rfl
      · obtain rfl := hs8.trans (show pickV 1 (cloV 64 m1) (cloV 68 m2) (cloV 68 m3) (fnV 40) (cloV 75 m5) (cloV 64 m6) (cloV 64 m7) (cloV 75 m8) = (cloV 64 m1) from rfl)
        obtain rfl := hs9.trans (show _ = Value.bool true from rfl)
        have hK := clo1_any mi mb nx l base A B D (.slice a l.length ca) W1 m1 hV1 HOK.out hnx hb hca hcb hcd (hCM.c1.cell 0) hCM.c1.lt
        (clear hs8 hs9; go_wp2_with fail; refine hK.mono ?_; rintro e w3 ⟨y, ev, q1, q2, rfl, hN, b3⟩; obtain ⟨ay, cy, rfl⟩ := nds_slice (hN.now hV1 b3); generalize hZ : doF mi mb (nx, l) base ⟨1, A, B, D⟩ ev q1 q2 = Z at *; have HN := Lib.hid hZ; clear hZ hK p0 p1 p2 p3 c0 c1 c2 c3; obtain ⟨⟨z1, z2⟩, z3⟩ := Z; dsimp only at hN; have bR3 := bR1.next b3; have hB3 := hB1.trans (b3.mono hB1.size); have hsz := hB1.size; obtain ⟨⟨r0, r1, r2, r3⟩, e0, e1', e2', e3⟩ := bR3.four; obtain ⟨W', hW', hb4, hg4⟩ := bR3.put4 (.int .i64 mi) (.int .i64 mb) (.int .i64 z1) (.slice ay z2.length cy); have hbl := below_grown hB3 hg4 (Nat.le_refl _) (by omega); have hM := hN.up (w := w) (w' := W') hsz (Kept.grown hg4 hRl); go_wp2; obtain ⟨⟨y0, y1, y2, y3⟩, _⟩ := hb4.four; refine bodyPost_ret (v := .tuple #[.agg (fsC mi mb z1 (.slice ay z2.length cy)), .int .i64 z3]) (by simp [results, Tryz.f14, go_sem, y0, y1, y2, y3]) rfl ?_; exact ⟨_, ev, q1, q2, by rw [HN.out], by rw [HN.out]; exact hM, hbl⟩)
      · obtain rfl := hs8.trans (show pickV 2 (cloV 64 m1) (cloV 68 m2) (cloV 68 m3) (fnV 40) (cloV 75 m5) (cloV 64 m6) (cloV 64 m7) (cloV 75 m8) = (cloV 68 m2) from rfl)
        obtain rfl := hs9.trans (show _ = Value.bool true from rfl)
        have hK := clo2_any mi mb nx l base A B D (.slice a l.length ca) W1 m2 hV1 HOK.out hnx hb hca hcb hcd (hCM.c2.cell 0) hCM.c2.lt
        (clear hs8 hs9; go_wp2_with fail; refine hK.mono ?_; rintro e w3 ⟨y, ev, q1, q2, rfl, hN, b3⟩; obtain ⟨ay, cy, rfl⟩ := nds_slice (hN.now hV1 b3); generalize hZ : doF mi mb (nx, l) base ⟨2, A, B, D⟩ ev q1 q2 = Z at *; have HN := Lib.hid hZ; clear hZ hK p0 p1 p2 p3 c0 c1 c2 c3; obtain ⟨⟨z1, z2⟩, z3⟩ := Z; dsimp only at hN; have bR3 := bR1.next b3; have hB3 := hB1.trans (b3.mono hB1.size); have hsz := hB1.size; obtain ⟨⟨r0, r1, r2, r3⟩, e0, e1', e2', e3⟩ := bR3.four; obtain ⟨W', hW', hb4, hg4⟩ := bR3.put4 (.int .i64 mi) (.int .i64 mb) (.int .i64 z1) (.slice ay z2.length cy); have hbl := below_grown hB3 hg4 (Nat.le_refl _) (by omega); have hM := hN.up (w := w) (w' := W') hsz (Kept.grown hg4 hRl); go_wp2; obtain ⟨⟨y0, y1, y2, y3⟩, _⟩ := hb4.four; refine bodyPost_ret (v := .tuple #[.agg (fsC mi mb z1 (.slice ay z2.length cy)), .int .i64 z3]) (by simp [results, Tryz.f14, go_sem, y0, y1, y2, y3]) rfl ?_; exact ⟨_, ev, q1, q2, by rw [HN.out], by rw [HN.out]; exact hM, hbl⟩)
      · obtain rfl := hs8.trans (show pickV 3 (cloV 64 m1) (cloV 68 m2) (cloV 68 m3) (fnV 40) (cloV 75 m5) (cloV 64 m6) (cloV 64 m7) (cloV 75 m8) = (cloV 68 m3) from rfl)
        obtain rfl := hs9.trans (show _ = Value.bool true from rfl)
        have hK := clo3_any mi mb nx l base A B D (.slice a l.length ca) W1 m3 hV1 HOK.out hnx hb hca hcb hcd (hCM.c3.cell 0) hCM.c3.lt
        (clear hs8 hs9; go_wp2_with fail; refine hK.mono ?_; rintro e w3 ⟨y, ev, q1, q2, rfl, hN, b3⟩; obtain ⟨ay, cy, rfl⟩ := nds_slice (hN.now hV1 b3); generalize hZ : doF mi mb (nx, l) base ⟨3, A, B, D⟩ ev q1 q2 = Z at *; have HN := Lib.hid hZ; clear hZ hK p0 p1 p2 p3 c0 c1 c2 c3; obtain ⟨⟨z1, z2⟩, z3⟩ := Z; dsimp only at hN; have bR3 := bR1.next b3; have hB3 := hB1.trans (b3.mono hB1.size); have hsz := hB1.size; obtain ⟨⟨r0, r1, r2, r3⟩, e0, e1', e2', e3⟩ := bR3.four; obtain ⟨W', hW', hb4, hg4⟩ := bR3.put4 (.int .i64 mi) (.int .i64 mb) (.int .i64 z1) (.slice ay z2.length cy); have hbl := below_grown hB3 hg4 (Nat.le_refl _) (by omega); have hM := hN.up (w := w) (w' := W') hsz (Kept.grown hg4 hRl); go_wp2; obtain ⟨⟨y0, y1, y2, y3⟩, _⟩ := hb4.four; refine bodyPost_ret (v := .tuple #[.agg (fsC mi mb z1 (.slice ay z2.length cy)), .int .i64 z3]) (by simp [results, Tryz.f14, go_sem, y0, y1, y2, y3]) rfl ?_; exact ⟨_, ev, q1, q2, by rw [HN.out], by rw [HN.out]; exact hM, hbl⟩)
      · obtain rfl := hs8.trans (show pickV 4 (cloV 64 m1) (cloV 68 m2) (cloV 68 m3) (fnV 40) (cloV 75 m5) (cloV 64 m6) (cloV 64 m7) (cloV 75 m8) = (fnV 40) from rfl)
        obtain rfl := hs9.trans (show _ = Value.bool true from rfl)
        have hK := clo4_any mi mb nx l base A B D (.slice a l.length ca) W1 hV1 HOK.out hnx hb hca hcb hcd
        (clear hs8 hs9; go_wp2_with fail; refine hK.mono ?_; rintro e w3 ⟨y, ev, q1, q2, rfl, hN, b3⟩; obtain ⟨ay, cy, rfl⟩ := nds_slice (hN.now hV1 b3); generalize hZ : doF mi mb (nx, l) base ⟨4, A, B, D⟩ ev q1 q2 = Z at *; have HN := Lib.hid hZ; clear hZ hK p0 p1 p2 p3 c0 c1 c2 c3; obtain ⟨⟨z1, z2⟩, z3⟩ := Z; dsimp only at hN; have bR3 := bR1.next b3; have hB3 := hB1.trans (b3.mono hB1.size); have hsz := hB1.size; obtain ⟨⟨r0, r1, r2, r3⟩, e0, e1', e2', e3⟩ := bR3.four; obtain ⟨W', hW', hb4, hg4⟩ := bR3.put4 (.int .i64 mi) (.int .i64 mb) (.int .i64 z1) (.slice ay z2.length cy); have hbl := below_grown hB3 hg4 (Nat.le_refl _) (by omega); have hM := hN.up (w := w) (w' := W') hsz (Kept.grown hg4 hRl); go_wp2; obtain ⟨⟨y0, y1, y2, y3⟩, _⟩ := hb4.four; refine bodyPost_ret (v := .tuple #[.agg (fsC mi mb z1 (.slice ay z2.length cy)), .int .i64 z3]) (by simp [results, Tryz.f14, go_sem, y0, y1, y2, y3]) rfl ?_; exact ⟨_, ev, q1, q2, by rw [HN.out], by rw [HN.out]; exact hM, hbl⟩)
      · obtain rfl := hs8.trans (show pickV 5 (cloV 64 m1) (cloV 68 m2) (cloV 68 m3) (fnV 40) (cloV 75 m5) (cloV 64 m6) (cloV 64 m7) (cloV 75 m8) = (cloV 75 m5) from rfl)
        obtain rfl := hs9.trans (show _ = Value.bool true from rfl)
        have hK := clo5_any mi mb nx l base A B D (.slice a l.length ca) W1 m5 hV1 HOK.out hnx hb hca hcb hcd (hCM.c5.cell 0) hCM.c5.lt
        (clear hs8 hs9; go_wp2_with fail; refine hK.mono ?_; rintro e w3 ⟨y, ev, q1, q2, rfl, hN, b3⟩; obtain ⟨ay, cy, rfl⟩ := nds_slice (hN.now hV1 b3); generalize hZ : doF mi mb (nx, l) base ⟨5, A, B, D⟩ ev q1 q2 = Z at *; have HN := Lib.hid hZ; clear hZ hK p0 p1 p2 p3 c0 c1 c2 c3; obtain ⟨⟨z1, z2⟩, z3⟩ := Z; dsimp only at hN; have bR3 := bR1.next b3; have hB3 := hB1.trans (b3.mono hB1.size); have hsz := hB1.size; obtain ⟨⟨r0, r1, r2, r3⟩, e0, e1', e2', e3⟩ := bR3.four; obtain ⟨W', hW', hb4, hg4⟩ := bR3.put4 (.int .i64 mi) (.int .i64 mb) (.int .i64 z1) (.slice ay z2.length cy); have hbl := below_grown hB3 hg4 (Nat.le_refl _) (by omega); have hM := hN.up (w := w) (w' := W') hsz (Kept.grown hg4 hRl); go_wp2; obtain ⟨⟨y0, y1, y2, y3⟩, _⟩ := hb4.four; refine bodyPost_ret (v := .tuple #[.agg (fsC mi mb z1 (.slice ay z2.length cy)), .int .i64 z3]) (by simp [results, Tryz.f14, go_sem, y0, y1, y2, y3]) rfl ?_; exact ⟨_, ev, q1, q2, by rw [HN.out], by rw [HN.out]; exact hM, hbl⟩)
      · obtain rfl := hs8.trans (show pickV 6 (cloV 64 m1) (cloV 68 m2) (cloV 68 m3) (fnV 40) (cloV 75 m5) (cloV 64 m6) (cloV 64 m7) (cloV 75 m8) = (cloV 64 m6) from rfl)
        obtain rfl := hs9.trans (show _ = Value.bool true from rfl)
        have hK := clo6_any mi mb nx l base A B D (.slice a l.length ca) W1 m6 hV1 HOK.out hnx hb hca hcb hcd (hCM.c6.cell 0) hCM.c6.lt
        (clear hs8 hs9; go_wp2_with fail; refine hK.mono ?_; rintro e w3 ⟨y, ev, q1, q2, rfl, hN, b3⟩; obtain ⟨ay, cy, rfl⟩ := nds_slice (hN.now hV1 b3); generalize hZ : doF mi mb (nx, l) base ⟨6, A, B, D⟩ ev q1 q2 = Z at *; have HN := Lib.hid hZ; clear hZ hK p0 p1 p2 p3 c0 c1 c2 c3; obtain ⟨⟨z1, z2⟩, z3⟩ := Z; dsimp only at hN; have bR3 := bR1.next b3; have hB3 := hB1.trans (b3.mono hB1.size); have hsz := hB1.size; obtain ⟨⟨r0, r1, r2, r3⟩, e0, e1', e2', e3⟩ := bR3.four; obtain ⟨W', hW', hb4, hg4⟩ := bR3.put4 (.int .i64 mi) (.int .i64 mb) (.int .i64 z1) (.slice ay z2.length cy); have hbl := below_grown hB3 hg4 (Nat.le_refl _) (by omega); have hM := hN.up (w := w) (w' := W') hsz (Kept.grown hg4 hRl); go_wp2; obtain ⟨⟨y0, y1, y2, y3⟩, _⟩ := hb4.four; refine bodyPost_ret (v := .tuple #[.agg (fsC mi mb z1 (.slice ay z2.length cy)), .int .i64 z3]) (by simp [results, Tryz.f14, go_sem, y0, y1, y2, y3]) rfl ?_; exact ⟨_, ev, q1, q2, by rw [HN.out], by rw [HN.out]; exact hM, hbl⟩)
      · obtain rfl := hs8.trans (show pickV 7 (cloV 64 m1) (cloV 68 m2) (cloV 68 m3) (fnV 40) (cloV 75 m5) (cloV 64 m6) (cloV 64 m7) (cloV 75 m8) = (cloV 64 m7) from rfl)
        obtain rfl := hs9.trans (show _ = Value.bool true from rfl)
        have hK := clo7_any mi mb nx l base A B D (.slice a l.length ca) W1 m7 hV1 HOK.out hnx hb hca hcb hcd (hCM.c7.cell 0) hCM.c7.lt
        (clear hs8 hs9; go_wp2_with fail; refine hK.mono ?_; rintro e w3 ⟨y, ev, q1, q2, rfl, hN, b3⟩; obtain ⟨ay, cy, rfl⟩ := nds_slice (hN.now hV1 b3); generalize hZ : doF mi mb (nx, l) base ⟨7, A, B, D⟩ ev q1 q2 = Z at *; have HN := Lib.hid hZ; clear hZ hK p0 p1 p2 p3 c0 c1 c2 c3; obtain ⟨⟨z1, z2⟩, z3⟩ := Z; dsimp only at hN; have bR3 := bR1.next b3; have hB3 := hB1.trans (b3.mono hB1.size); have hsz := hB1.size; obtain ⟨⟨r0, r1, r2, r3⟩, e0, e1', e2', e3⟩ := bR3.four; obtain ⟨W', hW', hb4, hg4⟩ := bR3.put4 (.int .i64 mi) (.int .i64 mb) (.int .i64 z1) (.slice ay z2.length cy); have hbl := below_grown hB3 hg4 (Nat.le_refl _) (by omega); have hM := hN.up (w := w) (w' := W') hsz (Kept.grown hg4 hRl); go_wp2; obtain ⟨⟨y0, y1, y2, y3⟩, _⟩ := hb4.four; refine bodyPost_ret (v := .tuple #[.agg (fsC mi mb z1 (.slice ay z2.length cy)), .int .i64 z3]) (by simp [results, Tryz.f14, go_sem, y0, y1, y2, y3]) rfl ?_; exact ⟨_, ev, q1, q2, by rw [HN.out], by rw [HN.out]; exact hM, hbl⟩)
      · obtain rfl := hs8.trans (show pickV 8 (cloV 64 m1) (cloV 68 m2) (cloV 68 m3) (fnV 40) (cloV 75 m5) (cloV 64 m6) (cloV 64 m7) (cloV 75 m8) = (cloV 75 m8) from rfl)
        obtain rfl := hs9.trans (show _ = Value.bool true from rfl)
        have hK := clo8_any mi mb nx l base A B D (.slice a l.length ca) W1 m8 hV1 HOK.out hnx hb hca hcb hcd (hCM.c8.cell 0) hCM.c8.lt
        (clear hs8 hs9; go_wp2_with fail; refine hK.mono ?_; rintro e w3 ⟨y, ev, q1, q2, rfl, hN, b3⟩; obtain ⟨ay, cy, rfl⟩ := nds_slice (hN.now hV1 b3); generalize hZ : doF mi mb (nx, l) base ⟨8, A, B, D⟩ ev q1 q2 = Z at *; have HN := Lib.hid hZ; clear hZ hK p0 p1 p2 p3 c0 c1 c2 c3; obtain ⟨⟨z1, z2⟩, z3⟩ := Z; dsimp only at hN; have bR3 := bR1.next b3; have hB3 := hB1.trans (b3.mono hB1.size); have hsz := hB1.size; obtain ⟨⟨r0, r1, r2, r3⟩, e0, e1', e2', e3⟩ := bR3.four; obtain ⟨W', hW', hb4, hg4⟩ := bR3.put4 (.int .i64 mi) (.int .i64 mb) (.int .i64 z1) (.slice ay z2.length cy); have hbl := below_grown hB3 hg4 (Nat.le_refl _) (by omega); have hM := hN.up (w := w) (w' := W') hsz (Kept.grown hg4 hRl); go_wp2; obtain ⟨⟨y0, y1, y2, y3⟩, _⟩ := hb4.four; refine bodyPost_ret (v := .tuple #[.agg (fsC mi mb z1 (.slice ay z2.length cy)), .int .i64 z3]) (by simp [results, Tryz.f14, go_sem, y0, y1, y2, y3]) rfl ?_; exact ⟨_, ev, q1, q2, by rw [HN.out], by rw [HN.out]; exact hM, hbl⟩)
    · obtain rfl := hs9.trans (show _ = Value.bool false from by rw [decide_eq_false ho])
      clear hs8
      have HN : Hid (doF mi mb (nx, l) base ⟨o, A, B, D⟩ (.slice none 0 0) (.slice none 0 0) (.slice none 0 0) = ((nx, l), 9)) := by
        show _ = _
        unfold doF
        dsimp only
        rw [if_neg (by omega), if_neg (by omega), if_neg (by omega), if_neg (by omega), if_neg (by omega), if_neg (by omega), if_neg (by omega), if_neg (by omega)]
      have hsz := hB1.size
      obtain ⟨⟨r0, r1, r2, r3⟩, e0, e1', e2', e3⟩ := bR1.four
      obtain ⟨W', hW', hb4, hg4⟩ := bR1.put4 (.int .i64 mi) (.int .i64 mb) (.int .i64 nx) (.slice a l.length ca)
      have hbl := below_grown hB1 hg4 (Nat.le_refl _) (by omega)
      go_wp2
      obtain ⟨⟨y0, y1, y2, y3⟩, _⟩ := hb4.four
      refine bodyPost_ret (v := .tuple #[.agg (fsC mi mb nx (.slice a l.length ca)), .int .i64 9]) (by simp [results, Tryz.f14, go_sem, y0, y1, y2, y3]) rfl ?_
      exact ⟨_, .slice none 0 0, .slice none 0 0, .slice none 0 0, by rw [HN.out], by rw [HN.out]; exact MadeFs.same _ _ _ _, hbl⟩
theorem Do15_any (mi mb nx : Int) (l : List Nd) (base : List UInt8) (c : CallV) (v : Value) (w : World) (hv : Nds w v l) (hok : okB mi mb nx l = true) (hnx : nx < 1099511627776) (hb : base.length ≤ 20000) (hca : c.a.length ≤ 300) (hcb : c.b.length ≤ 300) (hcd : c.data.length ≤ 300) :
    Calls Tryz.prog 14 #[.agg (fsC mi mb nx v), .string ⟨base.toArray⟩, .agg (callC c)] w fun e w' => ∃ y ev e1 e2, e = .returned (.tuple #[.agg (fsC mi mb (doF mi mb (nx, l) base c ev e1 e2).1.1 y), .int .i64 (doF mi mb (nx, l) base c ev e1 e2).2]) ∧ MadeFs w v l w' y (doF mi mb (nx, l) base c ev e1 e2).1.2 ∧ Below w.heap.size w w' :=
  DoR_any mi mb nx l base c v w hv hok hnx hb hca hcb hcd
theorem infoE15 : (Tryz.prog.info? 36).map (fun i => (i.zero, i.size, i.bytes)) = some (some (.int .i64 0), 1, 8) := by kernel_rfl
theorem MadeG.own {m g : Nat} {v y : Value} {l L : List Nd} {w w6 : World} (h : MadeG m (some g) v l w y L) (hg : w.grownBy w6 (some g)) : MadeG m (some g) v l w6 y L := fun W hk hv =>
  h W ⟨Nat.le_trans hg.size hk.1, fun b h1 h2 h3 => (hk.2 b h1 (Nat.lt_of_lt_of_le h2 hg.size) h3).trans (hg.block b h2 (fun e => h3 e.symm))⟩ hv
/-- The errors so far, noughts behind them. -/
def toldV (n : Nat) (es : List Int) : List Value := intsV (es ++ List.replicate (n - es.length) 0)
theorem told_none (n : Nat) : toldV n [] = (madeCells #[.int .i64 0] (n * 1)).toList := by
  rw [toList_madeCells_one]
  simp [toldV, intsV]
theorem told_set {n : Nat} {es : List Int} (h : es.length < n) (q : Int) : (toldV n es).set es.length (.int .i64 q) = toldV n (es ++ [q]) := by
  obtain ⟨d, hd⟩ : ∃ d, n - es.length = d + 1 := ⟨n - es.length - 1, by omega⟩
  have hd2 : n - (es ++ [q]).length = d := by simp; omega
  unfold toldV
  rw [hd2, hd]
  simp [intsV, List.replicate_succ, List.set_append]
theorem told_at {n : Nat} {es : List Int} (h : es.length < n) : (toldV n es)[es.length]? = some (.int .i64 0) := by
  obtain ⟨d, hd⟩ : ∃ d, n - es.length = d + 1 := ⟨n - es.length - 1, by omega⟩
  unfold toldV
  rw [hd]
  simp [intsV, List.replicate_succ]
theorem told_all {es : List Int} : toldV es.length es = intsV es := by simp [toldV]
set_option maxHeartbeats 8000000 in
set_option maxRecDepth 100000 in
theorem Run15_any (mi mb nx0 : Int) (l0 : List Nd) (cs : List CallV) (base : List UInt8) (v vc : Value) (w : World) (hv : Nds w v l0) (hc : Cls w vc cs) {n : Nat} (hk : Kit mi mb n (nx0, l0)) (hn : n + cs.length ≤ 30) (hb : base.length ≤ 20000) (hsh : ∀ c ∈ cs, c.a.length ≤ 300 ∧ c.b.length ≤ 300 ∧ c.data.length ≤ 300) :
    Calls Tryz.prog 10 #[.agg (fsC mi mb nx0 v), .string ⟨base.toArray⟩, vc] w fun e w' => ∃ y vo s es, e = .returned (.tuple #[.agg (fsC mi mb s.1 y), vo]) ∧ MadeFs w v l0 w' y s.2 ∧ w'.ownsRow w.heap.size 36 1 vo es.length (intsV es) ∧ RanN mi mb base (nx0, l0) cs cs.length s es ∧ Below w.heap.size w w' := by
  obtain ⟨i0, hi, hz0, hz1, hz2⟩ := info_parts infoE15
  obtain ⟨a, ca, rfl⟩ := nds_slice hv
  obtain ⟨ac, cc, rfl, hcc, hcm, _, hcn, HX0⟩ := id hc
  unfold maxLen at hcm
  have HX := Lib.hid HX0
  have HV := Lib.hid hv
  have HSH := Lib.hid hsh
  have HKi := Lib.hid (fun k s es (hk2 : n + k ≤ 31) h => ran_kit (base := base) hk (fun c hc => (hsh c hc).2.2) (k := k) (s := s) (es := es) hk2 h)
  clear HX0 hsh hk hc
  have bF := (Blk.new w 28 (fsC mi mb nx0 (.slice a l0.length ca))).alloc (.cells (fsC 0 0 0 (.slice none 0 0)) 28)
  have bR := Blk.new (w.alloc (.cells (fsC mi mb nx0 (.slice a l0.length ca)) 28)) 28 (fsC 0 0 0 (.slice none 0 0))
  have hB := ((Below.refl w.heap.size w).alloc (Nat.le_refl _) (.cells (fsC mi mb nx0 (.slice a l0.length ca)) 28)).alloc (by simp) (.cells (fsC 0 0 0 (.slice none 0 0)) 28)
  simp only [World.size_alloc] at bR
  have hm0 : w.heap.size + 2 ≤ ((w.alloc (.cells (fsC mi mb nx0 (.slice a l0.length ca)) 28)).alloc (.cells (fsC 0 0 0 (.slice none 0 0)) 28)).heap.size := by simp
  clear hv
  generalize hW0 : (w.alloc (.cells (fsC mi mb nx0 (.slice a l0.length ca)) 28)).alloc (.cells (fsC 0 0 0 (.slice none 0 0)) 28) = w0 at *
  go_enter Tryz.func10, Tryz.ntmps10
  go_wp2_with (at_make; refine wpList_make_full _ rfl _ _ 30 rfl (w.heap.size + 2) 36 i0 (.int .i64 0) 1 Tryz.underlying30 hi hz0 hz1 _ _ _ _ cs.length rfl rfl (by rfl) (by rfl) (by rw [hz2]; omega) (by unfold maxLen; omega) hm0 ?_; intro w1 hown1 hgr1)
  clear hW0
  have hg0 : w.heap.size + 2 ≤ w0.heap.size := hm0
  have bF1 := bF.kept hgr1 (by simp)
  have bR1 := bR.kept hgr1 (by simp)
  have hB1 := hB.grown hgr1 (by omega) (fun k hk => by cases hk)
  have hg1 : w0.heap.size < w1.heap.size := (hown1.lt w0.heap.size rfl).2
  have hO1 : w1.ownsRow (w.heap.size + 2) 36 1 (.slice (some ⟨w0.heap.size, 0, none⟩) cs.length cs.length) cs.length (toldV cs.length []) := by rw [told_none]; exact hown1
  clear hown1 hgr1 bF bR hB hm0
  generalize w0.heap.size = g at *
  go_loopg [16] cs.length (fun f s16 wr => ∃ (k : Nat) (y : Value) (s : St) (es : List Int), k + f = cs.length ∧ s16 = .int .i64 k ∧ Below w.heap.size w wr ∧ Aside (Blk wr w.heap.size 28 (fsC mi mb s.1 y)) ∧ Aside (Blk wr (w.heap.size + 1) 28 (fsC 0 0 0 (.slice none 0 0))) ∧
    Aside (MadeG (w.heap.size + 2) (some g) (.slice a l0.length ca) l0 wr y s.2) ∧ Aside (wr.ownsRow (w.heap.size + 2) 36 1 (.slice (some ⟨g, 0, none⟩) cs.length cs.length) cs.length (toldV cs.length es)) ∧ Aside (RanN mi mb base (nx0, l0) cs k s es) ∧ Aside (g < wr.heap.size))
  case atStart => exact ⟨0, .slice a l0.length ca, (nx0, l0), [], by omega, rfl, hB1, bF1, bR1, MadeG.start _ _ _ _ _, hO1, ⟨rfl, rfl⟩, hg1⟩
  case round =>
    clear bF1 bR1 hB1 hO1 hg1
    obtain ⟨k, y, ⟨nx, l⟩, es, hkg, rfl, hbw, HF, HR, HM, HO, HRan, HSZ⟩ := hrel
    by_cases hlt : k < cs.length
    · obtain ⟨G, rfl⟩ : ∃ G, gk = G + 1 := ⟨gk - 1, by omega⟩
      obtain ⟨b, off, rfl, hbl, hcl⟩ := HX.out (by omega)
      have hx0 := (hcl k hlt).below hbw hbl
      clear hcl
      have hs3 := HSH.out _ (List.getElem_mem hlt)
      have hck : cs[k]? = some cs[k] := List.getElem?_eq_getElem hlt
      generalize cs[k] = c at *
      obtain ⟨o, A, B, D⟩ := c
      have HCK := Lib.hid hck
      clear hck
      have k0 : (0 : Int) ≤ (k : Int) := by omega
      have k1 : (k : Int) < (cs.length : Int) := by omega
      have hkit := HKi.out k _ _ (by omega) HRan.out
      have hok := hkit.ok (by omega)
      have hnx1 : nx ≤ 2 + ((n + k : Nat) : Int) := hkit.next
      have hel := ran_len HRan.out
      have nF : Nds wr y l := HM.out.now (HV.out.below hbw)
      obtain ⟨ay, cy, rfl⟩ := nds_slice nF
      dsimp only at hs3
      have HDo := Lib.hid (fun W hW => Do15_any mi mb nx l base ⟨o, A, B, D⟩ (.slice ay l.length cy) W hW hok (by omega) hb hs3.1 hs3.2.1 hs3.2.2)
      have bF : Blk wr w.heap.size 28 (fsC mi mb nx (.slice ay l.length cy)) := HF.out
      have bR := HR.out
      have oO := HO.out
      have hM : MadeG (w.heap.size + 2) (some g) (.slice a l0.length ca) l0 wr (.slice ay l.length cy) l := HM.out
      have hSr : g < wr.heap.size := HSZ.out
      clear hkit hok hnx1 HF HR HM HO HSZ hs3
      obtain ⟨h0, h1, h2, h3⟩ := id hx0
      dsimp only at h0 h1 h2 h3
      have s1 := alloc_below wr (.cells (callC ⟨o, A, B, D⟩) 44)
      have bF1 := bF.next s1
      have bR1 := bR.next s1
      have oO1 := own_keep oO s1
      have nF1 := nF.below s1
      have bC1 := Blk.new wr 44 (callC ⟨o, A, B, D⟩)
      have hM1 := hM.kept (Kept.of_below s1)
      have hB1 := hbw.trans (s1.mono hbw.size)
      have hS1 := Nat.lt_of_lt_of_le hSr s1.size
      obtain ⟨⟨p0, p1, p2, p3⟩, _⟩ := bF1.four
      obtain ⟨⟨c0, c1, c2, c3⟩, _⟩ := bC1.four
      dsimp only at c0 c1 c2 c3
      clear s1 bF bR oO nF hM hSr hx0
      have HM1 := Lib.hid hM1
      have HO1 := Lib.hid oO1
      have HNF := Lib.hid nF1
      clear hM1 oO1 nF1
      go_wp2_with fail
      refine (HDo.out _ HNF.out).mono ?_
      rintro e w3 ⟨y3, ev, e1, e2, rfl, hM3, b3⟩
      have hRan2 := ran_next HCK.out HRan.out ev e1 e2
      generalize doF mi mb (nx, l) base ⟨o, A, B, D⟩ ev e1 e2 = Z at *
      obtain ⟨⟨nx3, l3⟩, q3⟩ := Z
      dsimp only at hM3 hRan2
      obtain ⟨a3, c3', rfl⟩ := nds_slice (hM3.now HNF.out b3)
      clear p0 p1 p2 p3 c0 c1 c2 c3 h0 h1 h2 h3
      have hF4 := bF1.next b3
      have hR4 := bR1.next b3
      have hM4 := HM1.out.call hM3 b3 (fun j hj => by cases hj; exact hS1) (by omega)
      have oO4 := own_keep HO1.out b3
      have hB4 := hB1.trans (b3.mono hB1.size)
      have hS4 := Nat.lt_of_lt_of_le hS1 b3.size
      have hFl4 := hF4.lt
      clear hM3 b3 HM1 HO1 HNF bF1 bR1 bC1 hB1 hS1 HDo
      obtain ⟨⟨p0, p1, p2, p3⟩, e0, e1', e2', e3⟩ := hF4.four
      obtain ⟨w5, hw5, bF5, hg5⟩ := hF4.put4 (.int .i64 mi) (.int .i64 mb) (.int .i64 nx3) (.slice a3 l3.length c3')
      have bR5 := hR4.kept hg5 (by simp)
      have oO5 := oO4.kept hg5 (own_not oO4 (by omega))
      have hB5 := below_grown hB4 hg5 (Nat.le_refl _) (Nat.le_refl _)
      have hM5 := hM4.kept (Kept.grown hg5 (by omega))
      have hS5 := Nat.lt_of_lt_of_le hS4 hg5.size
      have f5 := oO5.frozenAt k
      have t5 : w5.cell? ⟨g, k, none⟩ = some (.int .i64 0) := by
        rw [oO5.cellAt k (by omega), ← hel]
        exact told_at (by omega)
      obtain ⟨oO6, hg6⟩ := oO5.stored k (.int .i64 q3)
      rw [← hel, told_set (by omega)] at oO6
      rw [hel] at oO6
      clear hg5 oO4 hB4 hM4 hS4
      have bF6 := bF5.kept hg6 (by simp; omega)
      have bR6 := bR5.kept hg6 (by simp; omega)
      have hB6 := below_grown hB5 hg6 (Nat.le_refl _) (by omega)
      have hM6 := hM5.own hg6
      have hS6 := Nat.lt_of_lt_of_le hS5 hg6.size
      clear hg6 bF5 bR5 hB5 hM5 hS5 oO5
      have HR2 := Lib.hid hRan2
      clear hRan2 HRan HCK
      generalize hw6 : World.setCell w5 ⟨g, k, none⟩ (.int .i64 q3) = w6 at *
      go_wp2
      go_roundg G
      case rel => exact ⟨k + 1, .slice a3 l3.length c3', (nx3, l3), es ++ [q3], by omega, by go_num, hB6, bF6, bR6, hM6, oO6, HR2.out, hS6⟩
      case measure => omega
    · obtain rfl : k = cs.length := by omega
      have hel := ran_len HRan.out
      have nF : Nds wr y l := HM.out.now (HV.out.below hbw)
      obtain ⟨ay, cy, rfl⟩ := nds_slice nF
      replace HF : Hid (Blk wr w.heap.size 28 (fsC mi mb nx (.slice ay l.length cy))) := HF
      have hRl := HR.out.lt
      obtain ⟨⟨p0, p1, p2, p3⟩, _⟩ := HF.out.four
      obtain ⟨⟨r0, r1, r2, r3⟩, e0, e1, e2, e3⟩ := HR.out.four
      obtain ⟨W', hW', hb4, hg4⟩ := HR.out.put4 (.int .i64 mi) (.int .i64 mb) (.int .i64 nx) (.slice ay l.length cy)
      have hbl := below_grown hbw hg4 (Nat.le_refl _) (by omega)
      have hO' : W'.ownsRow w.heap.size 36 1 (.slice (some ⟨g, 0, none⟩) cs.length cs.length) es.length (intsV es) := by
        have h := own_base (HO.out.kept hg4 (own_not HO.out (by omega))) (base' := w.heap.size) (by omega)
        rw [← told_all, hel]
        exact h
      have hM' := HM.out.out (n := w.heap.size) (Kept.grown hg4 (by omega)) (by omega)
      have HRan' := HRan
      have HEL := Lib.hid hel
      clear nF hel
      go_wp2
      obtain ⟨⟨y0, y1, y2, y3⟩, _⟩ := hb4.four
      refine bodyPost_ret (v := .tuple #[.agg (fsC mi mb nx (.slice ay l.length cy)), .slice (some ⟨g, 0, none⟩) cs.length cs.length]) (by simp [results, Tryz.f10, go_sem, y0, y1, y2, y3]) rfl ?_
      refine ⟨.slice ay l.length cy, .slice (some ⟨g, 0, none⟩) cs.length cs.length, ?_⟩
      exact ⟨nx, rfl, l, hM', es, hO', HRan'.out, hbl⟩
/-- The root alone, in a row of its own. -/
theorem root_at {W : World} {g : Nat} (h : Blk W g 49 (ndC rootN)) : Nds W (.slice (some ⟨g, 0, none⟩) 1 1) [rootN] := by
  exact blk_nds (L := [rootN]) h (by simp [maxLen]) (root_all _) 1 rfl
theorem New_at (i b : Int) (w : World) (h1 : ¬ i < 1) (h2 : ¬ 1073741824 < i) (h3 : ¬ b < 0) (h4 : ¬ 1073741824 < b) :
    Calls Tryz.prog 17 #[.int .i64 i, .int .i64 b] w fun e w' => ∃ g, e = .returned (.tuple #[.agg (fsC i b 2 (.slice (some ⟨g, 0, none⟩) 1 1)), .int .i64 0]) ∧ w.heap.size ≤ g ∧ Blk w' g 49 (ndC rootN) ∧ Below w.heap.size w w' := by
  have b0 := ((Blk.new w 28 (fsC i b 2 (.slice (some ⟨w.heap.size + 1 + 1, 0, none⟩) 1 1))).alloc (.cells (ndC rootN) 49)).alloc (.cells (ndC rootN) 49)
  have hB : Below w.heap.size w (((w.alloc (.cells (fsC i b 2 (.slice (some ⟨w.heap.size + 1 + 1, 0, none⟩) 1 1)) 28)).alloc (.cells (ndC rootN) 49)).alloc (.cells (ndC rootN) 49)) := (((Below.refl _ w).alloc (Nat.le_refl _) _).alloc (by simp) _).alloc (by simp; omega) _
  have hN := Blk.new ((w.alloc (.cells (fsC i b 2 (.slice (some ⟨w.heap.size + 1 + 1, 0, none⟩) 1 1)) 28)).alloc (.cells (ndC rootN) 49)) 49 (ndC rootN)
  simp only [World.size_alloc] at hN
  obtain ⟨⟨r0, r1, r2, r3⟩, _⟩ := b0.four
  clear b0
  go_enter Tryz.func17, Tryz.ntmps17
  go_wp2
  refine bodyPost_ret (v := .tuple #[.agg (fsC i b 2 (.slice (some ⟨w.heap.size + 1 + 1, 0, none⟩) 1 1)), .int .i64 0]) (by simp [results, Tryz.f17, go_sem, r0, r1, r2, r3]) rfl ?_
  exact ⟨_, rfl, by omega, hN, hB⟩
theorem Tree15_bad (i b : Int) (cs : List CallV) (vc : Value) (w : World) (hc : Cls w vc cs) (h : ¬ (1 ≤ i ∧ i ≤ 1073741824 ∧ 0 ≤ b ∧ b ≤ 1073741824)) :
    Calls Tryz.prog 12 #[.int .i64 i, .int .i64 b, vc] w fun e w' => e = .returned (.tuple #[.agg (fsC 0 0 0 (.slice none 0 0)), .int .i64 9]) ∧ Below w.heap.size w w' := by
  obtain ⟨ac, cc, rfl⟩ := cls_slice hc
  clear hc
  have bR := Blk.new w 28 (fsC 0 0 0 (.slice none 0 0))
  have hB := (Below.refl w.heap.size w).alloc (Nat.le_refl _) (.cells (fsC 0 0 0 (.slice none 0 0)) 28)
  go_enter Tryz.func12, Tryz.ntmps12
  go_wp2_with fail
  refine (New_bad i b _ (by omega)).mono ?_
  rintro e w1 ⟨rfl, b1⟩
  have s1 := alloc_below w1 (.cells (fsC 0 0 0 (.slice none 0 0)) 28)
  have b2 := b1.trans (s1.mono b1.size)
  have bR2 := bR.next b2
  have hB2 := hB.trans (b2.mono hB.size)
  obtain ⟨⟨r0, r1, r2, r3⟩, e0, e1, e2, e3⟩ := bR2.four
  obtain ⟨W', hW', hb4, hg4⟩ := bR2.put4 (.int .i64 0) (.int .i64 0) (.int .i64 0) (.slice none 0 0)
  have hbl := below_grown hB2 hg4 (Nat.le_refl _) (Nat.le_refl _)
  go_wp2
  obtain ⟨⟨y0, y1, y2, y3⟩, _⟩ := hb4.four
  refine bodyPost_ret (v := .tuple #[.agg (fsC 0 0 0 (.slice none 0 0)), .int .i64 9]) (by simp [results, Tryz.f12, go_sem, y0, y1, y2, y3]) rfl ?_
  exact ⟨rfl, hbl⟩
set_option maxHeartbeats 8000000 in
set_option maxRecDepth 100000 in
theorem Tree15_any (i b : Int) (cs : List CallV) (vc : Value) (w : World) (hc : Cls w vc cs) (hn : cs.length ≤ 30) (hsh : ∀ c ∈ cs, c.a.length ≤ 300 ∧ c.b.length ≤ 300 ∧ c.data.length ≤ 300) (h : 1 ≤ i ∧ i ≤ 1073741824 ∧ 0 ≤ b ∧ b ≤ 1073741824) :
    Calls Tryz.prog 12 #[.int .i64 i, .int .i64 b, vc] w fun e w' => ∃ y s es, e = .returned (.tuple #[.agg (fsC i b s.1 y), .int .i64 0]) ∧ Nds w' y s.2 ∧ RanN i b [47] (2, [rootN]) cs cs.length s es ∧ Below w.heap.size w w' := by
  obtain ⟨ac, cc, rfl⟩ := cls_slice hc
  have bR := Blk.new w 28 (fsC 0 0 0 (.slice none 0 0))
  have hB := (Below.refl w.heap.size w).alloc (Nat.le_refl _) (.cells (fsC 0 0 0 (.slice none 0 0)) 28)
  have HC := Lib.hid hc
  have HR := Lib.hid (fun v W hv hC => Run15_any i b 2 [rootN] cs [47] v (.slice ac cs.length cc) W hv hC (n := 0) (root_kit h.1 h.2.1 h.2.2.1 h.2.2.2) (by omega) (by decide) hsh)
  clear hc hsh
  go_enter Tryz.func12, Tryz.ntmps12
  go_wp2_with fail
  refine (New_at i b _ (by omega) (by omega) (by omega) (by omega)).mono ?_
  rintro e w1 ⟨g, rfl, hgl, hN1, b1⟩
  have s1 := alloc_below w1 (.cells (fsC i b 2 (.slice (some ⟨g, 0, none⟩) 1 1)) 28)
  have b2 := b1.trans (s1.mono b1.size)
  have bR2 := bR.next b2
  have bG2 := Blk.new w1 28 (fsC i b 2 (.slice (some ⟨g, 0, none⟩) 1 1))
  have hB2 := hB.trans (b2.mono hB.size)
  have hN2 := hN1.next s1
  have n2 := root_at hN2
  have hG2 := hN1.lt
  have hgl2 : w.heap.size < g := Nat.lt_of_lt_of_le bR.lt hgl
  have hS2 := bG2.lt
  clear b1 s1 b2 bR hN1 h hgl
  obtain ⟨⟨p0, p1, p2, p3⟩, _⟩ := bG2.four
  go_wp2_with fail
  refine (HR.out _ _ n2 (HC.out.below hB2)).mono ?_
  rintro e w3 ⟨y3, vo, ⟨nx3, l3⟩, es, rfl, hM3, hov, hRan, b3⟩
  obtain ⟨a3, c3, rfl⟩ := nds_slice (hM3.now n2 b3)
  obtain ⟨ao, co, rfl⟩ := own_slice hov
  have bR4 := bR2.next b3
  have bG4 := bG2.next b3
  have hN4 := hN2.next b3
  have hB4 := hB2.trans (b3.mono hB2.size)
  have hRl := bR2.lt
  clear p0 p1 p2 p3 b3 n2 HR HC hov bG2 bR2 hB2 hN2
  obtain ⟨⟨p0, p1, p2, p3⟩, e0, e1', e2', e3⟩ := bG4.four
  obtain ⟨w5, hw5, bG5, hg5⟩ := bG4.put4 (.int .i64 i) (.int .i64 b) (.int .i64 nx3) (.slice a3 l3.length c3)
  have bR5 := bR4.kept hg5 (by simp; omega)
  have hN5 := hN4.kept hg5 (by simp; omega)
  have hB5 := below_grown hB4 hg5 (Nat.le_refl _) (by omega)
  obtain ⟨⟨q0, q1, q2, q3⟩, _⟩ := bG5.four
  obtain ⟨⟨r0, r1, r2, r3⟩, f0, f1, f2, f3⟩ := bR5.four
  obtain ⟨w6, hw6, bR6, hg6⟩ := bR5.put4 (.int .i64 i) (.int .i64 b) (.int .i64 nx3) (.slice a3 l3.length c3)
  have hN6 := hN5.kept hg6 (by simp; omega)
  have hbl := below_grown hB5 hg6 (Nat.le_refl _) (Nat.le_refl _)
  have n6 := hM3 w6 ((Kept.grown hg5 hS2).trans (Kept.grown hg6 hRl)) (root_at hN6)
  clear hM3 bG4 bG5 bR4 hN4 hN5 hN6 hg5 hg6
  go_wp2
  obtain ⟨⟨y0, y1, y2, y3⟩, _⟩ := bR6.four
  refine bodyPost_ret (v := .tuple #[.agg (fsC i b nx3 (.slice a3 l3.length c3)), .int .i64 0]) (by simp [results, Tryz.f12, go_sem, y0, y1, y2, y3]) rfl ?_
  exact ⟨_, (nx3, l3), es, rfl, n6, hRan, hbl⟩
end Go.Proofs.YtkdmfeikikmiiaaGreat
