/- For every limits and every few calls with short texts, done by package build one behind the other from the empty file system on: behind each call the file system is sound, and what is refused changes nothing (no condition). Printed by tools/law15c.py. -/
import Derived.Test.YtkdmfeikikmiiaaGreatVMLawBase15
import Derived.Deep.LoopGhost
import Derived.Deep.RegionWith
set_option linter.unusedVariables false
set_option linter.unusedSimpArgs false
namespace Go.Proofs.YtkdmfeikikmiiaaGreat
open Go.ChangeShapes Go.WideShapes Go.ChangeAt Go.RowKit
set_option linter.unusedVariables false
set_option maxHeartbeats 8000000 in
set_option maxRecDepth 100000 in
theorem lawSound15 (mi i b : Int) (h1 : 0 ≤ i ∧ i ≤ 65535) (hmi : mi = 1 + i) (h2 : 0 ≤ b ∧ b ≤ 65535) (cs : List CallV) (vc : Value) (w : World) (hc : Cls w vc cs) :
    Calls Tryz.prog 5 #[.int .u16 i, .int .u16 b, vc] w fun e w' => e = .returned (.bool true) ∧ Below w.heap.size w w' := by
  cases hf : fewC cs
  · go_enter Tryz.func5, Tryz.ntmps5
    go_wp2_with fail; refine (awake15 _).mono ?_; rintro e w1 ⟨rfl, b1⟩
    go_wp2_with fail; refine (fewC_any cs _ _ (hc.below b1)).mono ?_; rintro e w2 ⟨rfl, rfl⟩
    rw [hf]
    go_wp2_with fail; refine (awake15 _).mono ?_; rintro e w3 ⟨rfl, b3⟩
    go_wp2
    go_ret
    exact ⟨rfl, b1.trans (b3.mono b1.size)⟩
  obtain ⟨hl, hsh⟩ := fewC_small hf
  have hw1 : IntKind.i64.wrap i = i := by rw [IntKind.wrap_i64]; omega
  have hw2 : IntKind.i64.wrap b = b := by rw [IntKind.wrap_i64]; omega
  have hw3 : IntKind.i64.wrap (1 + i) = mi := by rw [hmi, IntKind.wrap_i64]; omega
  have hkit : Kit mi b 0 (2, [rootN]) := root_kit (by omega) (by omega) (by omega) (by omega)
  have HSH := Lib.hid hsh
  have HKi := Lib.hid (fun k s es (hk2 : 0 + k ≤ 31) h => ran_kit (base := [47]) hkit (fun c hc => (hsh c hc).2.2) (k := k) (s := s) (es := es) hk2 h)
  go_enter Tryz.func5, Tryz.ntmps5
  go_wp2_with fail; refine (awake15 _).mono ?_; rintro e w1 ⟨rfl, b1⟩
  replace hc := hc.below b1
  go_wp2_with fail; refine (fewC_any cs _ _ hc).mono ?_; rintro e w2 ⟨rfl, rfl⟩
  rw [hf]
  go_wp2_with fail
  rw [← hmi]
  clear hmi hw3
  refine (refNewT_any mi b _).mono ?_
  rintro e w2 ⟨v2, rfl, n2, b2⟩
  obtain ⟨a2, c2, rfl⟩ := nds_slice n2
  have s2 := alloc_below w2 (.cells (fsC mi b 2 (.slice a2 1 c2)) 28)
  have bF := Blk.new w2 28 (fsC mi b 2 (.slice a2 1 c2))
  replace hc := hc.below b2
  have hB := b1.trans (b2.mono b1.size)
  obtain ⟨ac, cc, rfl, hcc, hcm, _, hcn, HX0⟩ := id hc
  unfold maxLen at hcm
  have HX := Lib.hid HX0
  have N0 := Lib.hid n2
  have hm0 : w2.heap.size + 1 ≤ (w2.alloc (.cells (fsC mi b 2 (.slice a2 1 c2)) 28)).heap.size := by simp
  clear b1 b2 hsh HX0 n2 hkit hw1 hw2 hc h1
  go_upto_region 4 with fail
  generalize w2.alloc (.cells (fsC mi b 2 (.slice a2 1 c2)) 28) = w0 at *
  generalize hBB : w2.heap.size = B at *
  go_wp2
  go_loopg [8] cs.length (fun g s8 wr => ∃ (k : Nat) (y : Value) (s : St) (es : List Int), k + g = cs.length ∧ s8 = .int .i64 k ∧ Below B w2 wr ∧ Aside (Blk wr B 28 (fsC mi b s.1 y)) ∧ Aside (MadeG (B + 1) none (.slice a2 1 c2) [rootN] wr y s.2) ∧ Aside (RanN mi b [47] (2, [rootN]) cs k s es) ∧ Aside (B + 1 ≤ wr.heap.size))
  case atStart => exact ⟨0, .slice a2 1 c2, (2, [rootN]), [], by omega, rfl, s2, bF, MadeG.start _ _ _ _ _, ⟨rfl, rfl⟩, hm0⟩
  case round =>
    clear bF s2 hm0
    obtain ⟨k, y, ⟨nx, l⟩, es, hkg, rfl, hbw, HF, HM, HRan, HSZ⟩ := hrel
    by_cases hlt : k < cs.length
    · obtain ⟨G, rfl⟩ : ∃ G, gk = G + 1 := ⟨gk - 1, by omega⟩
      obtain ⟨bc, off, rfl, hbl, hcl⟩ := HX.out (by omega)
      have hx0 := hcl k hlt
      clear hcl
      have hs3 := HSH.out _ (List.getElem_mem hlt)
      have hck : cs[k]? = some cs[k] := List.getElem?_eq_getElem hlt
      generalize cs[k] = c at *
      obtain ⟨o, A, Bb, D⟩ := c
      have HCK := Lib.hid hck
      clear hck
      have k0 : (0 : Int) ≤ (k : Int) := by omega
      have k1 : (k : Int) < (cs.length : Int) := by omega
      have hkit := HKi.out k _ _ (by omega) HRan.out
      have hok := hkit.ok (by omega)
      have hnx1 : nx ≤ 2 + ((0 + k : Nat) : Int) := hkit.next
      have nF : Nds wr y l := HM.out.now (N0.out.below (by rw [hBB]; exact hbw))
      obtain ⟨ay, cy, rfl⟩ := nds_slice nF
      dsimp only at hs3
      have HDo := Lib.hid (fun W hW => Do15_any mi b nx l [47] ⟨o, A, Bb, D⟩ (.slice ay l.length cy) W hW hok (by omega) (by decide) hs3.1 hs3.2.1 hs3.2.2)
      have HDK := Lib.hid (fun ev e1 e2 => do_kit (base := [47]) (c := ⟨o, A, Bb, D⟩) hkit (by omega) hs3.2.2 ev e1 e2)
      have bF : Blk wr B 28 (fsC mi b nx (.slice ay l.length cy)) := HF.out
      have hFl := bF.lt
      have hM : MadeG (B + 1) none (.slice a2 1 c2) [rootN] wr (.slice ay l.length cy) l := HM.out
      have hSr : B + 1 ≤ wr.heap.size := HSZ.out
      have HX0 := Lib.hid hx0
      have HMK : ∀ W, Below wr.heap.size wr W → (W.cell? ⟨B, 0, none⟩ = some (.int .i64 mi) ∧ W.cell? ⟨B, 1, none⟩ = some (.int .i64 b) ∧ W.cell? ⟨B, 2, none⟩ = some (.int .i64 nx) ∧ W.cell? ⟨B, 3, none⟩ = some (.slice ay l.length cy) ∧ W.cell? ⟨bc, off + k * 4, none⟩ = some (.int .i64 o) ∧ W.cell? ⟨bc, off + k * 4 + 1, none⟩ = some (.string ⟨A.toArray⟩) ∧ W.cell? ⟨bc, off + k * 4 + 2, none⟩ = some (.string ⟨Bb.toArray⟩) ∧ W.cell? ⟨bc, off + k * 4 + 3, none⟩ = some (.string ⟨D.toArray⟩)) := by
        intro W h
        obtain ⟨⟨y0, y1, y2, y3⟩, _⟩ := (bF.next h).four
        obtain ⟨c0, c1, c2, c3⟩ := (HX0.out.below hbw (by omega)).below h (by omega)
        exact ⟨y0, y1, y2, y3, c0, c1, c2, c3⟩
      clear hkit hok hnx1 HF HM HSZ hx0 hs3
      have HND := Lib.hid nF
      have HMM := Lib.hid hM
      have HBF := Lib.hid bF
      clear nF hM bF
      have hq0 : Below wr.heap.size wr wr.drew := (Below.refl _ _).drew
      go_upto_region 7 with fail
      (refine wp_region_held_drew (S := (fun W => W.cell? ⟨B, 0, none⟩ = some (.int .i64 mi) ∧ W.cell? ⟨B, 1, none⟩ = some (.int .i64 b) ∧ W.cell? ⟨B, 2, none⟩ = some (.int .i64 nx) ∧ W.cell? ⟨B, 3, none⟩ = some (.slice ay l.length cy) ∧ W.cell? ⟨bc, off + k * 4, none⟩ = some (.int .i64 o) ∧ W.cell? ⟨bc, off + k * 4 + 1, none⟩ = some (.string ⟨A.toArray⟩) ∧ W.cell? ⟨bc, off + k * 4 + 2, none⟩ = some (.string ⟨Bb.toArray⟩) ∧ W.cell? ⟨bc, off + k * 4 + 3, none⟩ = some (.string ⟨D.toArray⟩))) (by kernel_rfl) (HMK _ hq0) (fun hHeld => ?_))
      (refine heldTake 0 (some 32) (v := ?_) rfl rfl (by kernel_rfl) (by kernel_rfl) (by kernel_rfl) (fun _ _ _ h => h) (by rfl) ?_ (by assumption) ?_; rotate_left; (focus (intro w hSw; (try dsimp only at hSw); go_simp; try with_reducible rfl)); (try simp only [Act.put, List.setIfInBounds_toArray, List.set_cons_zero, List.set_cons_succ]))
      (refine heldTake 1 (some 33) (v := ?_) rfl rfl (by kernel_rfl) (by kernel_rfl) (by kernel_rfl) (fun _ _ _ h => h) (by rfl) ?_ (by assumption) ?_; rotate_left; (focus (intro w hSw; (try dsimp only at hSw); go_simp; try with_reducible rfl)); (try simp only [Act.put, List.setIfInBounds_toArray, List.set_cons_zero, List.set_cons_succ]))
      (refine heldTake 2 (some 34) (v := ?_) rfl rfl (by kernel_rfl) (by kernel_rfl) (by kernel_rfl) (fun _ _ _ h => h) (by rfl) ?_ (by assumption) ?_; rotate_left; (focus (intro w hSw; (try dsimp only at hSw); go_simp; try with_reducible rfl)); (try simp only [Act.put, List.setIfInBounds_toArray, List.set_cons_zero, List.set_cons_succ]))
      (refine heldTake 3 (some 35) (v := ?_) rfl rfl (by kernel_rfl) (by kernel_rfl) (by kernel_rfl) (fun _ _ _ h => h) (by rfl) ?_ (by assumption) ?_; rotate_left; (focus (intro w hSw; (try dsimp only at hSw); go_simp; try with_reducible rfl)); (try simp only [Act.put, List.setIfInBounds_toArray, List.set_cons_zero, List.set_cons_succ]))
      (refine heldTake 4 (some 36) (v := ?_) rfl rfl (by kernel_rfl) (by kernel_rfl) (by kernel_rfl) (fun _ _ _ h => h) (by rfl) ?_ (by assumption) ?_; rotate_left; (focus (intro w hSw; (try dsimp only at hSw); go_simp; try with_reducible rfl)); (try simp only [Act.put, List.setIfInBounds_toArray, List.set_cons_zero, List.set_cons_succ]))
      (refine wpAnyH_ready (rs := [5, 9]) (by kernel_rfl) (by simp) ?_; refine AllReadyH.cons rfl (fun K hK => ?_) (AllReadyH.cons rfl (fun K hK => ?_) AllReadyH.nil))
      · (go_simp; go_at_call 14; refine (HDo.out _ (HND.out.below hq0)).mono ?_; rintro e w3 ⟨y3, ev, e1, e2, rfl, hM3, b3⟩; have hRan2 := ran_next HCK.out HRan.out ev e1 e2; have hKit2 := HDK.out ev e1 e2; generalize doF mi b (nx, l) [47] ⟨o, A, Bb, D⟩ ev e1 e2 = Z at *; obtain ⟨⟨nx3, l3⟩, q3⟩ := Z; dsimp only at hM3 hRan2 hKit2; obtain ⟨a3, c3', rfl⟩ := nds_slice (hM3.now (HND.out.below hq0) b3); have hq1 := hq0.trans (b3.mono hq0.size); (try dsimp only); refine hK.out _ _ (HMK _ hq1) (fun hHeld => ?_); clear hK K; (try simp only [Act.put, List.setIfInBounds_toArray, List.set_cons_zero, List.set_cons_succ]))
        (refine heldTake 6 (some 31) (v := ?_) rfl rfl (by kernel_rfl) (by kernel_rfl) (by kernel_rfl) (fun _ _ _ h => h) (by rfl) ?_ (by assumption) ?_; rotate_left; (focus (intro w hSw; (try dsimp only at hSw); go_simp; try with_reducible rfl)); (try simp only [Act.put, List.setIfInBounds_toArray, List.set_cons_zero, List.set_cons_succ]))
        (refine heldTake 7 (some 38) (v := ?_) rfl rfl (by kernel_rfl) (by kernel_rfl) (by kernel_rfl) (fun _ _ _ h => h) (by rfl) ?_ (by assumption) ?_; rotate_left; (focus (intro w hSw; (try dsimp only at hSw); go_simp; try with_reducible rfl)); (try simp only [Act.put, List.setIfInBounds_toArray, List.set_cons_zero, List.set_cons_succ]))
        (refine heldTake 8 (some 39) (v := ?_) rfl rfl (by kernel_rfl) (by kernel_rfl) (by kernel_rfl) (fun _ _ _ h => h) (by rfl) ?_ (by assumption) ?_; rotate_left; (focus (intro w hSw; (try dsimp only at hSw); go_simp; try with_reducible rfl)); (try simp only [Act.put, List.setIfInBounds_toArray, List.set_cons_zero, List.set_cons_succ]))
        have s3 := alloc_below w3 (.cells (fsC 0 0 0 (.slice none 0 0)) 28)
        have hq2 := hq1.trans (s3.mono hq1.size)
        (refine wpAnyH_ready (rs := [9]) (by kernel_rfl) (by simp) ?_; refine AllReadyH.cons rfl (fun K hK => ?_) AllReadyH.nil; go_simp; skip; (try dsimp only); refine hK.out _ _ (HMK _ hq2) (fun hHeld => ?_); clear hK K; (try simp only [Act.put, List.setIfInBounds_toArray, List.set_cons_zero, List.set_cons_succ]))
        have bG := Blk.new w3 28 (fsC mi b nx3 (.slice a3 l3.length c3'))
        have s4 := alloc_below w3 (.cells (fsC mi b nx3 (.slice a3 l3.length c3')) 28)
        have hq3 := hq1.trans (s4.mono hq1.size)
        (refine wpAnyH_ready (rs := [10]) (by kernel_rfl) (by simp) ?_; refine AllReadyH.cons rfl (fun K hK => ?_) AllReadyH.nil; go_simp; skip; (try dsimp only); refine hK.out _ _ (HMK _ hq3) (fun hHeld => ?_); clear hK K; (try simp only [Act.put, List.setIfInBounds_toArray, List.set_cons_zero, List.set_cons_succ]))
        (refine heldTake 11 (some 10) (v := ?_) rfl rfl (by kernel_rfl) (by kernel_rfl) (by kernel_rfl) (fun _ _ _ h => h) (by rfl) ?_ (by assumption) ?_; rotate_left; (focus (intro w hSw; (try dsimp only at hSw); go_simp; try with_reducible rfl)); (try simp only [Act.put, List.setIfInBounds_toArray, List.set_cons_zero, List.set_cons_succ]))
        refine wpAnyH_done (by kernel_rfl) ?_ _
        have hM4 := ((HMM.out.kept (Kept.of_below hq0)).call hM3 b3 (fun g hg => (nomatch hg)) (Nat.le_trans hSr hq0.size)).kept (Kept.of_below s4)
        have hF4 := HBF.out.next hq3
        have hB4 := hbw.trans (hq3.mono (by omega))
        have hS4 := Nat.le_trans hSr hq3.size
        have n4 := hM4.now (N0.out.below (by rw [hBB]; exact hB4))
        have f4 := HND.out.below hq3
        have HR2 := Lib.hid hRan2
        obtain ⟨hk3, hk4⟩ := hKit2
        have HK4 := Lib.hid hk4
        have hfw := few_ok (hk3.few (by omega))
        have hCh := refCheck_any mi b nx3 l3 _ _ n4 hfw.1 hfw.2.1 hfw.2.2.1 hfw.2.2.2
        rw [sound_check hk3.sound] at hCh
        clear hRan2 hk3 hk4 hfw hM3 HMK HND HMM HBF HDo HX0 HCK HRan HDK hq0 hq1 b3 s3 s4 hq2
        obtain ⟨⟨g0, g1, g2, g3⟩, _⟩ := bG.four
        go_wp2_with fail
        refine hCh.mono ?_
        rintro e w5 ⟨rfl, b5⟩
        replace hF4 := hF4.next b5
        replace bG := bG.next b5
        replace hM4 := hM4.kept (Kept.of_below b5)
        replace hB4 := hB4.trans (b5.mono (by omega))
        replace hS4 := Nat.le_trans hS4 b5.size
        replace n4 := n4.below b5
        replace f4 := f4.below b5
        clear b5 g0 g1 g2 g3 hCh
        obtain ⟨⟨g0, g1, g2, g3⟩, _⟩ := bG.four
        obtain ⟨⟨p0, p1, p2, p3⟩, e0, e1', e2', e3⟩ := hF4.four
        by_cases hq : q3 = 0
        case pos =>
          subst hq
          obtain ⟨w6, hw6, bF6, hg6⟩ := hF4.put4 (.int .i64 mi) (.int .i64 b) (.int .i64 nx3) (.slice a3 l3.length c3')
          have hFl := hF4.lt
          have hM6 := hM4.kept (Kept.grown hg6 (by omega))
          have hB6 := below_grown hB4 hg6 (Nat.le_of_eq hBB.symm) (by omega)
          have hS6 := Nat.le_trans hS4 hg6.size
          clear hM4 hg6
          go_wp2
          go_roundg G
          case rel => exact ⟨k + 1, .slice a3 l3.length c3', (nx3, l3), es ++ [0], by omega, by go_num, hB6, bF6, hM6, HR2.out, hS6⟩
          case measure => omega
        have heq := HK4.out hq
        simp only [Prod.mk.injEq] at heq
        obtain ⟨rfl, rfl⟩ := heq
        go_wp2_with fail
        refine (key_same mi b nx3 (a := l3) (b := l3) rfl _ _ _ f4 n4).mono ?_
        rintro e w6 ⟨rfl, b6⟩
        replace hF4 := hF4.next b6
        replace bG := bG.next b6
        replace hM4 := hM4.kept (Kept.of_below b6)
        replace hB4 := hB4.trans (b6.mono (by omega))
        replace hS4 := Nat.le_trans hS4 b6.size
        clear b6 g0 g1 g2 g3 p0 p1 p2 p3 e0 e1' e2' e3 n4 f4
        obtain ⟨⟨g0, g1, g2, g3⟩, _⟩ := bG.four
        obtain ⟨⟨p0, p1, p2, p3⟩, e0, e1', e2', e3⟩ := hF4.four
        obtain ⟨w7, hw7, bF7, hg7⟩ := hF4.put4 (.int .i64 mi) (.int .i64 b) (.int .i64 nx3) (.slice a3 l3.length c3')
        have hFl := hF4.lt
        have hM7 := hM4.kept (Kept.grown hg7 (by omega))
        have hB7 := below_grown hB4 hg7 (Nat.le_of_eq hBB.symm) (by omega)
        have hS7 := Nat.le_trans hS4 hg7.size
        clear hM4 hg7
        go_wp2
        go_roundg G
        case rel => exact ⟨k + 1, .slice a3 l3.length c3', (nx3, l3), es ++ [q3], by omega, by go_num, hB7, bF7, hM7, HR2.out, hS7⟩
        case measure => omega
      · have s0 := alloc_below wr.drew (.cells (fsC 0 0 0 (.slice none 0 0)) 28)
        have hq1 := hq0.trans (s0.mono hq0.size)
        (go_simp; skip; (try dsimp only); refine hK.out _ _ (HMK _ hq1) (fun hHeld => ?_); clear hK K; (try simp only [Act.put, List.setIfInBounds_toArray, List.set_cons_zero, List.set_cons_succ]))
        (refine wpAnyH_ready (rs := [5]) (by kernel_rfl) (by simp) ?_; refine AllReadyH.cons rfl (fun K hK => ?_) AllReadyH.nil; go_simp; go_at_call 14; refine (HDo.out _ (HND.out.below hq1)).mono ?_; rintro e w3 ⟨y3, ev, e1, e2, rfl, hM3, b3⟩; have hRan2 := ran_next HCK.out HRan.out ev e1 e2; have hKit2 := HDK.out ev e1 e2; generalize doF mi b (nx, l) [47] ⟨o, A, Bb, D⟩ ev e1 e2 = Z at *; obtain ⟨⟨nx3, l3⟩, q3⟩ := Z; dsimp only at hM3 hRan2 hKit2; obtain ⟨a3, c3', rfl⟩ := nds_slice (hM3.now (HND.out.below hq1) b3); have hq2 := hq1.trans (b3.mono hq1.size); (try dsimp only); refine hK.out _ _ (HMK _ hq2) (fun hHeld => ?_); clear hK K; (try simp only [Act.put, List.setIfInBounds_toArray, List.set_cons_zero, List.set_cons_succ]))
        (refine heldTake 6 (some 31) (v := ?_) rfl rfl (by kernel_rfl) (by kernel_rfl) (by kernel_rfl) (fun _ _ _ h => h) (by rfl) ?_ (by assumption) ?_; rotate_left; (focus (intro w hSw; (try dsimp only at hSw); go_simp; try with_reducible rfl)); (try simp only [Act.put, List.setIfInBounds_toArray, List.set_cons_zero, List.set_cons_succ]))
        (refine heldTake 7 (some 38) (v := ?_) rfl rfl (by kernel_rfl) (by kernel_rfl) (by kernel_rfl) (fun _ _ _ h => h) (by rfl) ?_ (by assumption) ?_; rotate_left; (focus (intro w hSw; (try dsimp only at hSw); go_simp; try with_reducible rfl)); (try simp only [Act.put, List.setIfInBounds_toArray, List.set_cons_zero, List.set_cons_succ]))
        (refine heldTake 8 (some 39) (v := ?_) rfl rfl (by kernel_rfl) (by kernel_rfl) (by kernel_rfl) (fun _ _ _ h => h) (by rfl) ?_ (by assumption) ?_; rotate_left; (focus (intro w hSw; (try dsimp only at hSw); go_simp; try with_reducible rfl)); (try simp only [Act.put, List.setIfInBounds_toArray, List.set_cons_zero, List.set_cons_succ]))
        have bG0 : Blk w3 wr.heap.size 28 (fsC 0 0 0 (.slice none 0 0)) := (Blk.new wr.drew 28 (fsC 0 0 0 (.slice none 0 0))).next b3
        obtain ⟨⟨z0, z1, z2, z3⟩, h0, h1, h2, h3⟩ := bG0.four
        obtain ⟨w4, hw4, bG, hg3⟩ := bG0.put4 (.int .i64 mi) (.int .i64 b) (.int .i64 nx3) (.slice a3 l3.length c3')
        have hq3 := below_grown hq2 hg3 (Nat.le_refl _) hq0.size
        (refine wpAnyH_ready (rs := [10]) (by kernel_rfl) (by simp) ?_; refine AllReadyH.cons rfl (fun K hK => ?_) AllReadyH.nil; go_simp; skip; (try dsimp only); refine hK.out _ _ (HMK _ hq3) (fun hHeld => ?_); clear hK K; (try simp only [Act.put, List.setIfInBounds_toArray, List.set_cons_zero, List.set_cons_succ]))
        (refine heldTake 11 (some 10) (v := ?_) rfl rfl (by kernel_rfl) (by kernel_rfl) (by kernel_rfl) (fun _ _ _ h => h) (by rfl) ?_ (by assumption) ?_; rotate_left; (focus (intro w hSw; (try dsimp only at hSw); go_simp; try with_reducible rfl)); (try simp only [Act.put, List.setIfInBounds_toArray, List.set_cons_zero, List.set_cons_succ]))
        refine wpAnyH_done (by kernel_rfl) ?_ _
        have hM4 := HMM.out.call2 hM3 hq1 b3 (fun g hg => (nomatch hg)) hSr hq0.size (by simp) hg3
        have hF4 := HBF.out.next hq3
        have hB4 := hbw.trans (hq3.mono (by omega))
        have hS4 := Nat.le_trans hSr hq3.size
        have n4 := hM4.now (N0.out.below (by rw [hBB]; exact hB4))
        have f4 := HND.out.below hq3
        have HR2 := Lib.hid hRan2
        obtain ⟨hk3, hk4⟩ := hKit2
        have HK4 := Lib.hid hk4
        have hfw := few_ok (hk3.few (by omega))
        have hCh := refCheck_any mi b nx3 l3 _ _ n4 hfw.1 hfw.2.1 hfw.2.2.1 hfw.2.2.2
        rw [sound_check hk3.sound] at hCh
        clear hRan2 hk3 hk4 hfw hM3 HMK HND HMM HBF HDo HX0 HCK HRan HDK hq0 hq1 b3 s0 hq2 hg3 hw4 z0 z1 z2 z3 h0 h1 h2 h3 bG0
        obtain ⟨⟨g0, g1, g2, g3⟩, _⟩ := bG.four
        go_wp2_with fail
        refine hCh.mono ?_
        rintro e w5 ⟨rfl, b5⟩
        replace hF4 := hF4.next b5
        replace bG := bG.next b5
        replace hM4 := hM4.kept (Kept.of_below b5)
        replace hB4 := hB4.trans (b5.mono (by omega))
        replace hS4 := Nat.le_trans hS4 b5.size
        replace n4 := n4.below b5
        replace f4 := f4.below b5
        clear b5 g0 g1 g2 g3 hCh
        obtain ⟨⟨g0, g1, g2, g3⟩, _⟩ := bG.four
        obtain ⟨⟨p0, p1, p2, p3⟩, e0, e1', e2', e3⟩ := hF4.four
        by_cases hq : q3 = 0
        case pos =>
          subst hq
          obtain ⟨w6, hw6, bF6, hg6⟩ := hF4.put4 (.int .i64 mi) (.int .i64 b) (.int .i64 nx3) (.slice a3 l3.length c3')
          have hFl := hF4.lt
          have hM6 := hM4.kept (Kept.grown hg6 (by omega))
          have hB6 := below_grown hB4 hg6 (Nat.le_of_eq hBB.symm) (by omega)
          have hS6 := Nat.le_trans hS4 hg6.size
          clear hM4 hg6
          go_wp2
          go_roundg G
          case rel => exact ⟨k + 1, .slice a3 l3.length c3', (nx3, l3), es ++ [0], by omega, by go_num, hB6, bF6, hM6, HR2.out, hS6⟩
          case measure => omega
        have heq := HK4.out hq
        simp only [Prod.mk.injEq] at heq
        obtain ⟨rfl, rfl⟩ := heq
        go_wp2_with fail
        refine (key_same mi b nx3 (a := l3) (b := l3) rfl _ _ _ f4 n4).mono ?_
        rintro e w6 ⟨rfl, b6⟩
        replace hF4 := hF4.next b6
        replace bG := bG.next b6
        replace hM4 := hM4.kept (Kept.of_below b6)
        replace hB4 := hB4.trans (b6.mono (by omega))
        replace hS4 := Nat.le_trans hS4 b6.size
        clear b6 g0 g1 g2 g3 p0 p1 p2 p3 e0 e1' e2' e3 n4 f4
        obtain ⟨⟨g0, g1, g2, g3⟩, _⟩ := bG.four
        obtain ⟨⟨p0, p1, p2, p3⟩, e0, e1', e2', e3⟩ := hF4.four
        obtain ⟨w7, hw7, bF7, hg7⟩ := hF4.put4 (.int .i64 mi) (.int .i64 b) (.int .i64 nx3) (.slice a3 l3.length c3')
        have hFl := hF4.lt
        have hM7 := hM4.kept (Kept.grown hg7 (by omega))
        have hB7 := below_grown hB4 hg7 (Nat.le_of_eq hBB.symm) (by omega)
        have hS7 := Nat.le_trans hS4 hg7.size
        clear hM4 hg7
        go_wp2
        go_roundg G
        case rel => exact ⟨k + 1, .slice a3 l3.length c3', (nx3, l3), es ++ [q3], by omega, by go_num, hB7, bF7, hM7, HR2.out, hS7⟩
        case measure => omega
    · go_wp2
      go_ret
      exact ⟨rfl, hB.trans (hbw.mono (by have := hB.size; omega))⟩
namespace LBuildSound
set_option maxRecDepth 100000 in
theorem lifted (os : Os) (started : os.Started) (H : Type) (enc : TypeId × Value → H) :
    ReturnsInHanded {} Tryz.checked os 5 .any (Rows.buildSoundSpec.pre6 enc Tryz.prog Tryz.f5 Rows.buildSoundRow.domain false) (Rows.buildSoundSpec.post enc Tryz.prog Tryz.f5 false true false false) := by
  refine returnsInHanded_of_change (C := Tryz.checked) (by kernel_rfl) started (by kernel_rfl) Tryz.func5
    (ChangeSpec.witness6 (enc := enc) (C := Tryz.checked) false ⟨#[], #[.int .u16 0, .int .u16 0, .slice none 0 0], []⟩ 8 (by kernel_rfl) (by kernel_rfl) (by kernel_rfl) (by kernel_rfl)) ?_
  intro W base args ds gs before hval0 hW hcnd _
  have hval : ∀ (j : Nat) t v, Tryz.f5.params[j]? = some t → args[j]? = some v → Value.okWide Tryz.prog W .any base t v := hval0
  have hW' := hW
  obtain ⟨p, q, hA0, hV, rfl, hfz, hnd⟩ := hW
  have hA : DataW.TrodAll enc Tryz.prog W 0 (fun _ => true) true Tryz.f5.params.toList args.toList ds p := hA0
  rw [Tryz.params5] at hA hval
  obtain ⟨v0, vs0, d0, ds0, p0, q0, hargs, rfl, rfl, k0, r0⟩ := trodAll_cons hA
  obtain ⟨v1, vs1, d1, ds1, p1, q1, rfl, rfl, rfl, k1, r1⟩ := trodAll_cons r0
  obtain ⟨v2, vs2, d2, ds2, p2, q2, rfl, rfl, rfl, k2, r2⟩ := trodAll_cons r1
  obtain ⟨rfl, rfl, rfl⟩ := trodAll_nil r2
  obtain rfl : args = #[v0, v1, v2] := by cases args; simp_all
  obtain ⟨rfl, rfl⟩ := trodVars_none hV
  have ok0 := hval 0 22 v0 rfl rfl
  have ok1 := hval 1 22 v1 rfl rfl
  have ok2 := hval 2 23 v2 rfl rfl
  have lt0 : ∀ x ∈ p0, x.block < W.heap.size := by obtain ⟨m, hm⟩ := k0; exact DataW.trod_lt m _ _ _ hm
  have lt1 : ∀ x ∈ p1, x.block < W.heap.size := by obtain ⟨m, hm⟩ := k1; exact DataW.trod_lt m _ _ _ hm
  have lt2 : ∀ x ∈ p2, x.block < W.heap.size := by obtain ⟨m, hm⟩ := k2; exact DataW.trod_lt m _ _ _ hm
  have C : Calls Tryz.prog 5 #[v0, v1, v2] W fun e w' => e = .returned (.bool true) ∧ Below W.heap.size W w' := by
    clear hA0 hval0 hval hW' hcnd hV hfz hnd
    obtain ⟨i, rfl, rfl, rfl, hi⟩ := open_int Tryz.underlying22 ok0 k0
    obtain ⟨b, rfl, rfl, rfl, hb⟩ := open_int Tryz.underlying22 ok1 k1
    obtain ⟨cs, hc⟩ := cls_of_trod k2 ⟨_, ok2⟩
    exact lawSound15 _ i b (bounds_u16 hi) rfl (bounds_u16 hb) cs _ W hc
  refine C.mono fun e W' ⟨he, bel⟩ => ?_
  subst he
  exact ⟨_, rfl, _, _, _, [], _, [], hW', trodAll_mk1 (shut_bool Tryz.underlying4 _), (trodAll_cons_mk (Below.trod laidOut (by kernel_rfl) (of_decide_eq_true (by kernel_rfl)) k0 bel lt0) (trodAll_cons_mk (Below.trod laidOut (by kernel_rfl) (of_decide_eq_true (by kernel_rfl)) k1 bel lt1) (trodAll_cons_mk (Below.trod laidOut (by kernel_rfl) (of_decide_eq_true (by kernel_rfl)) k2 bel lt2) trodAll_mk0))), rfl, bel.frame _, fun h => by cases h⟩
theorem proved : Rows.BuildSoundSaid :=
  OpenClaim.holds_of_wide 5 Tryz.f5 rfl rfl rfl rfl rfl rfl rfl ⟨rfl, rfl, rfl, rfl, rfl⟩ rfl rfl rfl rfl rfl (by kernel_rfl) Tryz.func5 (by kernel_rfl)
    (of_decide_eq_true (by kernel_rfl)) (by unfold Func.isWrapper; first | (rw [if_pos (by decide +kernel)]; kernel_rfl) | (rw [if_neg (by decide +kernel)]; exact ⟨rfl, rfl⟩))
    (fun os started H enc _ => lifted os started H enc)
#print axioms proved
end LBuildSound
end Go.Proofs.YtkdmfeikikmiiaaGreat
