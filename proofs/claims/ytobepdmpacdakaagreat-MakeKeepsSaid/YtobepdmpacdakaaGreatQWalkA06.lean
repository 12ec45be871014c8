/- Walks: package room, and the document's room. -/
import Derived.Test.YtobepdmpacdakaaGreatQWalkD05
import Derived.Test.YtobepdmpacdakaaGreatQ
import Derived.Test.YtobepdmpacdakaaGreatQB
import Derived.BigQuiet
import Derived.Deep.RegionHeld3
set_option linter.unusedVariables false
set_option linter.unusedSimpArgs false
namespace Go.Proofs.YtobepdmpacdakaaGreat
open Go.RowKit

theorem Inodes_any (mi mb nx : Int) (l : List Nd) (v : Value) (w : World) (hv : Nds w v l) :
    Calls Tryz.prog 64 #[.agg (fsC mi mb nx v)] w fun e w' => e = .returned (.int .i64 (l.length : Int)) ∧ Below w.heap.size w w' := by
  obtain ⟨a, ca, rfl⟩ := nds_slice hv
  have b0 := Blk.new w 24 (fsC mi mb nx (.slice a l.length ca))
  have hB0 := alloc_below w (.cells (fsC mi mb nx (.slice a l.length ca)) 24)
  have p3 := b0.four.1.2.2.2
  go_enter Tryz.func64, Tryz.ntmps64
  go_wp2
  go_ret
  exact ⟨rfl, hB0⟩

theorem bytesOf_any (x : Nd) (w : World) (hx : Ents w x.ev x.ents) :
    Calls Tryz.prog 89 #[.agg (ndC x)] w fun e w' => e = .returned (.int .i64 (costN x : Int)) ∧ Below w.heap.size w w' := by
  obtain ⟨xi, xk, xl, xd, xp, xe, xn⟩ := x
  obtain ⟨a, c, hye, _⟩ := hx
  dsimp only at hye
  subst hye
  have b0 := Blk.new w 45 (ndC ⟨xi, xk, xl, xd, xp, .slice a xn.length c, xn⟩)
  have hB0 := alloc_below w (.cells (ndC ⟨xi, xk, xl, xd, xp, .slice a xn.length c, xn⟩) 45)
  obtain ⟨⟨s0, s1, s2, s3, s4, s5⟩, _⟩ := b0.six
  dsimp only at s0 s1 s2 s3 s4 s5
  cases h : (xk != 1)
  · have HC := Lib.hid (costN_yes (x := ⟨xi, xk, xl, xd, xp, .slice a xn.length c, xn⟩) (by simpa using h))
    go_enter Tryz.func89, Tryz.ntmps89
    go_wp2
    go_ret
    exact ⟨by rw [HC.out]; rfl, hB0⟩
  · have HC := Lib.hid (costN_no (x := ⟨xi, xk, xl, xd, xp, .slice a xn.length c, xn⟩) (by simpa using h))
    go_enter Tryz.func89, Tryz.ntmps89
    go_wp2
    go_ret
    exact ⟨by rw [HC.out]; rfl, hB0⟩

set_option maxHeartbeats 2000000 in
theorem Bytes_any (mi mb nx : Int) (l : List Nd) (v : Value) (w : World) (hv : Nds w v l) (hl : l.length ≤ 1000000) (hs : bytesN l ≤ 1099511627776) :
    Calls Tryz.prog 65 #[.agg (fsC mi mb nx v)] w fun e w' => e = .returned (.int .i64 (bytesN l : Int)) ∧ Below w.heap.size w w' := by
  obtain ⟨a, ca, rfl, hc, hm, hea, hna, HA0⟩ := id hv
  unfold maxLen at hm
  have HA := Lib.hid HA0
  have HE := Lib.hid hea
  clear HA0 hea hv
  have b0 := Blk.new w 24 (fsC mi mb nx (.slice a l.length ca))
  have hB0 := alloc_below w (.cells (fsC mi mb nx (.slice a l.length ca)) 24)
  have p3 := b0.four.1.2.2.2
  go_enter Tryz.func65, Tryz.ntmps65
  go_wp2
  clear p3
  go_loopw [3, 8] (fun s3 s8 wr => ∃ k : Nat, k ≤ l.length ∧ s8 = .int .i64 k ∧ s3 = .int .i64 (bytesN (l.take k) : Int) ∧ Below w.heap.size w wr ∧ Aside (Blk wr w.heap.size 24 (fsC mi mb nx (.slice a l.length ca)))) (fun _ s8 _ => l.length - (intOf s8).toNat)
  case atStart => exact ⟨0, Nat.zero_le _, rfl, rfl, hB0, b0⟩
  case round =>
    clear b0 hB0
    obtain ⟨k, hk, rfl, rfl, hbw, HB⟩ := hrel
    have p3 := HB.out.four.1.2.2.2
    by_cases hlt : k < l.length
    · obtain ⟨b, o, rfl, hb, hcl⟩ := HA.out (by omega)
      obtain ⟨c0, c1, c2, c3, c4, c5⟩ := (hcl k hlt).below hbw hb
      clear hcl
      have hE := (HE.out.below hbw) _ (List.getElem_mem hlt)
      have hnx := bytesN_next hlt
      have hle := bytesN_take l (k + 1)
      generalize l[k] = y at *
      generalize hT : bytesN (l.take (k + 1)) = T at *
      have HT := Lib.hid hT
      generalize bytesN (l.take k) = U at *
      have k0 : (0 : Int) ≤ (k : Int) := by omega
      have k1 : (k : Int) < (l.length : Int) := by omega
      have hCall := bytesOf_any y wr hE
      obtain ⟨yi, yk, yl, yd, yp, ye, yn⟩ := y
      dsimp only at hE c0 c1 c2 c3 c4 c5 hCall
      obtain ⟨ae, ne, rfl, _⟩ := hE
      generalize costN ⟨yi, yk, yl, yd, yp, .slice ae yn.length ne, yn⟩ = z at *
      clear hT
      go_wp2_with fail
      refine hCall.mono ?_
      rintro e w2 ⟨rfl, b2⟩
      have hb3 := hbw.trans (b2.mono hbw.size)
      have HB2 := HB.out.next b2
      clear hCall
      go_wp2
      go_roundw
      case rel => exact ⟨k + 1, by omega, by go_num, by rw [HT.out, hnx]; go_num, hb3, HB2⟩
      case measure => simp [intOf]; omega
    · obtain rfl : k = l.length := by omega
      have HN := Lib.hid (bytesN_end l)
      go_wp2
      go_ret
      exact ⟨by rw [HN.out]; rfl, hbw⟩

set_option maxHeartbeats 2000000 in
theorem refBytes_any (mi mb nx : Int) (l : List Nd) (v : Value) (w : World) (hv : Nds w v l) (hl : l.length ≤ 1000000) (hs : bytesN l ≤ 1099511627776) :
    Calls Tryz.prog 70 #[.agg (fsC mi mb nx v)] w fun e w' => e = .returned (.int .i64 (bytesN l : Int)) ∧ Below w.heap.size w w' := by
  obtain ⟨a, ca, rfl, hc, hm, hea, hna, HA0⟩ := id hv
  unfold maxLen at hm
  have HA := Lib.hid HA0
  have HE := Lib.hid hea
  clear HA0 hea hv
  have b0 := Blk.new w 24 (fsC mi mb nx (.slice a l.length ca))
  have hB0 := alloc_below w (.cells (fsC mi mb nx (.slice a l.length ca)) 24)
  go_enter Tryz.func70, Tryz.ntmps70
  go_wp2
  go_loopw [3, 4] (fun s3 s4 wr => ∃ k : Nat, k ≤ l.length ∧ s4 = .int .i64 k ∧ s3 = .int .i64 (bytesN (l.take k) : Int) ∧ wr = w.alloc (.cells (fsC mi mb nx (.slice a l.length ca)) 24)) (fun _ s4 _ => l.length - (intOf s4).toNat)
  case atStart => exact ⟨0, Nat.zero_le _, rfl, rfl, rfl⟩
  case round =>
    obtain ⟨k, hk, rfl, rfl, rfl⟩ := hrel
    have p3 := b0.four.1.2.2.2
    generalize w.alloc (.cells (fsC mi mb nx (.slice a l.length ca)) 24) = wr at *
    by_cases hlt : k < l.length
    · obtain ⟨b, o, rfl, hb, hcl⟩ := HA.out (by omega)
      obtain ⟨c0, c1, c2, c3, c4, c5⟩ := (hcl k hlt).below hB0 hb
      clear hcl
      have hnx := bytesN_next hlt
      have hle := bytesN_take l (k + 1)
      generalize l[k] = y at *
      generalize hT : bytesN (l.take (k + 1)) = T at *
      have HT := Lib.hid hT
      generalize bytesN (l.take k) = U at *
      have k0 : (0 : Int) ≤ (k : Int) := by omega
      have k1 : (k : Int) < (l.length : Int) := by omega
      obtain ⟨yi, yk, yl, yd, yp, ye, yn⟩ := y
      dsimp only at c0 c1 c2 c3 c4 c5
      clear hT
      cases h : (yk == 1)
      · have HC := Lib.hid (costN_no (x := ⟨yi, yk, yl, yd, yp, ye, yn⟩) (by simpa using h))
        rw [HC.out] at hnx
        go_wp2
        go_roundw
        case rel => exact ⟨k + 1, by omega, by go_num, by rw [HT.out, hnx]; go_num, trivial⟩
        case measure => simp [intOf]; omega
      · have HC := Lib.hid (costN_yes (x := ⟨yi, yk, yl, yd, yp, ye, yn⟩) (by simpa using h))
        rw [HC.out] at hnx
        dsimp only at hnx
        go_wp2
        go_roundw
        case rel => exact ⟨k + 1, by omega, by go_num, by rw [HT.out, hnx]; go_num, trivial⟩
        case measure => simp [intOf]; omega
    · obtain rfl : k = l.length := by omega
      have HN := Lib.hid (bytesN_end l)
      go_wp2
      go_ret
      exact ⟨by rw [HN.out]; rfl, hB0⟩

set_option maxHeartbeats 2000000 in
theorem Fits_any (mi mb nx i b : Int) (l : List Nd) (v : Value) (w : World) (hv : Nds w v l) (hl : l.length ≤ 1000000) (hs : bytesN l ≤ 1099511627776) (hi : -1099511627776 ≤ i ∧ i ≤ 1099511627776) (hb : -1099511627776 ≤ b ∧ b ≤ 1099511627776) :
    Calls Tryz.prog 40 #[.agg (fsC mi mb nx v), .int .i64 i, .int .i64 b] w fun e w' => e = .returned (.bool (fitsB mi mb l i b)) ∧ Below w.heap.size w w' := by
  obtain ⟨a, ca, rfl⟩ := nds_slice hv
  have b0 := Blk.new w 24 (fsC mi mb nx (.slice a l.length ca))
  have hB0 := alloc_below w (.cells (fsC mi mb nx (.slice a l.length ca)) 24)
  have nV := hv.below hB0
  clear hv
  generalize hw1 : w.alloc (.cells (fsC mi mb nx (.slice a l.length ca)) 24) = w1 at *
  have HW := Lib.hid hw1
  clear hw1
  have HMK : ∀ W, Below w1.heap.size w1 W → (W.cell? ⟨w.heap.size, 0, none⟩ = some (.int .i64 mi) ∧ W.cell? ⟨w.heap.size, 1, none⟩ = some (.int .i64 mb) ∧ W.cell? ⟨w.heap.size, 2, none⟩ = some (.int .i64 nx) ∧ W.cell? ⟨w.heap.size, 3, none⟩ = some (.slice a l.length ca)) := by
    intro W h
    exact (b0.next h).four.1
  clear b0
  have hq := (Below.refl w1.heap.size w1).drew
  have n1 : IntKind.i64.wrap ((l.length : Int) + i) = (l.length : Int) + i := by rw [IntKind.wrap_i64]; omega
  have n2 : IntKind.i64.wrap ((bytesN l : Int) + b) = (bytesN l : Int) + b := by rw [IntKind.wrap_i64]; omega
  go_enter Tryz.func40, Tryz.ntmps40
  cases h1 : decide ((l.length : Int) + i ≤ mi)
  · have HF : Hid (fitsB mi mb l i b = false) := by (show _ = _); unfold fitsB; rw [h1, Bool.false_and]
    go_upto_region 1 with fail
    rw [HW.out]
    (refine wp_region_held_drew (S := (fun W => W.cell? ⟨w.heap.size, 0, none⟩ = some (.int .i64 mi) ∧ W.cell? ⟨w.heap.size, 1, none⟩ = some (.int .i64 mb) ∧ W.cell? ⟨w.heap.size, 2, none⟩ = some (.int .i64 nx) ∧ W.cell? ⟨w.heap.size, 3, none⟩ = some (.slice a l.length ca))) (by kernel_rfl) (HMK _ hq) (fun hHeld => ?_))
    (refine heldTake 0 (some 7) (v := ?_) rfl rfl (by kernel_rfl) (by kernel_rfl) (by kernel_rfl) (fun _ _ _ h => h) (by rfl) ?_ (by assumption) ?_; rotate_left; (focus (intro w hSw; (try dsimp only at hSw); go_simp; try with_reducible rfl)); (try simp only [Act.put, List.setIfInBounds_toArray, List.set_cons_zero, List.set_cons_succ]))
    (refine heldTake 2 (some 9) (v := ?_) rfl rfl (by kernel_rfl) (by kernel_rfl) (by kernel_rfl) (fun _ _ _ h => h) (by rfl) ?_ (by assumption) ?_; rotate_left; (focus (intro w hSw; (try dsimp only at hSw); go_simp; try with_reducible rfl)); (try simp only [Act.put, List.setIfInBounds_toArray, List.set_cons_zero, List.set_cons_succ]))
    (refine heldTake 4 (some 11) (v := ?_) rfl rfl (by kernel_rfl) (by kernel_rfl) (by kernel_rfl) (fun _ _ _ h => h) (by rfl) ?_ (by assumption) ?_; rotate_left; (focus (intro w hSw; (try dsimp only at hSw); go_simp; try with_reducible rfl)); (try simp only [Act.put, List.setIfInBounds_toArray, List.set_cons_zero, List.set_cons_succ]))
    (refine heldTake 5 (some 12) (v := ?_) rfl rfl (by kernel_rfl) (by kernel_rfl) (by kernel_rfl) (fun _ _ _ h => h) (by rfl) ?_ (by assumption) ?_; rotate_left; (focus (intro w hSw; (try dsimp only at hSw); go_simp; try with_reducible rfl)); (try simp only [Act.put, List.setIfInBounds_toArray, List.set_cons_zero, List.set_cons_succ]))
    (refine wpAnyH_ready (rs := [1]) (by kernel_rfl) (by simp) ?_; refine AllReadyH.cons rfl (fun K hK => ?_) AllReadyH.nil; go_simp; go_at_call 64; refine (Inodes_any mi mb nx l _ _ (nV.below hq)).mono ?_; rintro e wz ⟨rfl, bz⟩; have hq := hq.trans (bz.mono hq.size); (try dsimp only); refine hK.out _ _ (HMK _ hq) (fun hHeld => ?_); clear hK K; (try simp only [Act.put, List.setIfInBounds_toArray, List.set_cons_zero, List.set_cons_succ]))
    (refine heldTake 3 (some 10) (v := ?_) rfl rfl (by kernel_rfl) (by kernel_rfl) (by kernel_rfl) (fun _ _ _ h => h) (by rfl) ?_ (by assumption) ?_; rotate_left; (focus (intro w hSw; (try dsimp only at hSw); go_simp; try with_reducible rfl)); (try simp only [Act.put, List.setIfInBounds_toArray, List.set_cons_zero, List.set_cons_succ]))
    (refine heldTake 6 (some 13) (v := ?_) rfl rfl (by kernel_rfl) (by kernel_rfl) (by kernel_rfl) (fun _ _ _ h => h) (by rfl) ?_ (by assumption) ?_; rotate_left; (focus (intro w hSw; (try dsimp only at hSw); go_simp; try with_reducible rfl)); (try simp only [Act.put, List.setIfInBounds_toArray, List.set_cons_zero, List.set_cons_succ]))
    (refine heldTake 7 (some 14) (v := ?_) rfl rfl (by kernel_rfl) (by kernel_rfl) (by kernel_rfl) (fun _ _ _ h => h) (by rfl) ?_ (by assumption) ?_; rotate_left; (focus (intro w hSw; (try dsimp only at hSw); go_simp; try with_reducible rfl)); (try simp only [Act.put, List.setIfInBounds_toArray, List.set_cons_zero, List.set_cons_succ]))
    (refine heldSkip 8 (some 15) rfl rfl (by kernel_rfl) (by kernel_rfl) (by kernel_rfl) (fun _ _ _ h => h) (by rfl) (by assumption) ?_; (try simp only [Act.put, List.setIfInBounds_toArray, List.set_cons_zero, List.set_cons_succ]))
    (refine heldSkip 9 (some 16) rfl rfl (by kernel_rfl) (by kernel_rfl) (by kernel_rfl) (fun _ _ _ h => h) (by rfl) (by assumption) ?_; (try simp only [Act.put, List.setIfInBounds_toArray, List.set_cons_zero, List.set_cons_succ]))
    (refine heldSkip 10 (some 17) rfl rfl (by kernel_rfl) (by kernel_rfl) (by kernel_rfl) (fun _ _ _ h => h) (by rfl) (by assumption) ?_; (try simp only [Act.put, List.setIfInBounds_toArray, List.set_cons_zero, List.set_cons_succ]))
    (refine heldSkip 11 (some 18) rfl rfl (by kernel_rfl) (by kernel_rfl) (by kernel_rfl) (fun _ _ _ h => h) (by rfl) (by assumption) ?_; (try simp only [Act.put, List.setIfInBounds_toArray, List.set_cons_zero, List.set_cons_succ]))
    (refine heldSkip 12 (some 19) rfl rfl (by kernel_rfl) (by kernel_rfl) (by kernel_rfl) (fun _ _ _ h => h) (by rfl) (by assumption) ?_; (try simp only [Act.put, List.setIfInBounds_toArray, List.set_cons_zero, List.set_cons_succ]))
    (refine heldSkip 13 (some 20) rfl rfl (by kernel_rfl) (by kernel_rfl) (by kernel_rfl) (fun _ _ _ h => h) (by rfl) (by assumption) ?_; (try simp only [Act.put, List.setIfInBounds_toArray, List.set_cons_zero, List.set_cons_succ]))
    (refine heldSkip 14 (some 21) rfl rfl (by kernel_rfl) (by kernel_rfl) (by kernel_rfl) (fun _ _ _ h => h) (by rfl) (by assumption) ?_; (try simp only [Act.put, List.setIfInBounds_toArray, List.set_cons_zero, List.set_cons_succ]))
    (refine heldTake 15 (some 22) (v := ?_) rfl rfl (by kernel_rfl) (by kernel_rfl) (by kernel_rfl) (fun _ _ _ h => h) (by rfl) ?_ (by assumption) ?_; rotate_left; (focus (intro w hSw; (try dsimp only at hSw); go_simp; try with_reducible rfl)); (try simp only [Act.put, List.setIfInBounds_toArray, List.set_cons_zero, List.set_cons_succ]))
    (refine heldTake 16 (some 6) (v := ?_) rfl rfl (by kernel_rfl) (by kernel_rfl) (by kernel_rfl) (fun _ _ _ h => h) (by rfl) ?_ (by assumption) ?_; rotate_left; (focus (intro w hSw; (try dsimp only at hSw); go_simp; try with_reducible rfl)); (try simp only [Act.put, List.setIfInBounds_toArray, List.set_cons_zero, List.set_cons_succ]))
    refine wpAnyH_done (by kernel_rfl) ?_ _
    all_goals go_wp2
    all_goals go_ret
    all_goals exact ⟨ret_bool (by rw [HF.out]), hB0.trans (hq.mono hB0.size)⟩
  · have HF : Hid (fitsB mi mb l i b = decide ((bytesN l : Int) + b ≤ mb)) := by (show _ = _); unfold fitsB; rw [h1, Bool.true_and]
    go_upto_region 1 with fail
    rw [HW.out]
    go_region_held3 (fun W => W.cell? ⟨w.heap.size, 0, none⟩ = some (.int .i64 mi) ∧ W.cell? ⟨w.heap.size, 1, none⟩ = some (.int .i64 mb) ∧ W.cell? ⟨w.heap.size, 2, none⟩ = some (.int .i64 nx) ∧ W.cell? ⟨w.heap.size, 3, none⟩ = some (.slice a l.length ca))
      (exact HMK _ hq)
      (first
        | (go_at_call 64; refine (Inodes_any mi mb nx l _ _ (nV.below hq)).mono ?_; rintro e wz ⟨rfl, bz⟩; have hq := hq.trans (bz.mono hq.size))
        | (go_at_call 65; refine (Bytes_any mi mb nx l _ _ (nV.below hq) hl hs).mono ?_; rintro e wz ⟨rfl, bz⟩; have hq := hq.trans (bz.mono hq.size)))
    all_goals go_wp2
    all_goals go_ret
    all_goals exact ⟨ret_bool (by rw [HF.out]), hB0.trans (hq.mono hB0.size)⟩

set_option maxHeartbeats 2000000 in
theorem refFits_any (mi mb nx i b : Int) (l : List Nd) (v : Value) (w : World) (hv : Nds w v l) (hl : l.length ≤ 1000000) (hs : bytesN l ≤ 1099511627776) (hi : -1099511627776 ≤ i ∧ i ≤ 1099511627776) (hb : -1099511627776 ≤ b ∧ b ≤ 1099511627776) :
    Calls Tryz.prog 43 #[.agg (fsC mi mb nx v), .int .i64 i, .int .i64 b] w fun e w' => e = .returned (.bool (fitsB mi mb l i b)) ∧ Below w.heap.size w w' := by
  obtain ⟨a, ca, rfl⟩ := nds_slice hv
  have b0 := Blk.new w 24 (fsC mi mb nx (.slice a l.length ca))
  have hB0 := alloc_below w (.cells (fsC mi mb nx (.slice a l.length ca)) 24)
  have nV := hv.below hB0
  clear hv
  obtain ⟨p0, p1, p2, p3⟩ := b0.four.1
  have n1 : IntKind.i64.wrap ((l.length : Int) + i) = (l.length : Int) + i := by rw [IntKind.wrap_i64]; omega
  have n2 : IntKind.i64.wrap ((bytesN l : Int) + b) = (bytesN l : Int) + b := by rw [IntKind.wrap_i64]; omega
  go_enter Tryz.func43, Tryz.ntmps43
  by_cases h1 : (l.length : Int) + i ≤ mi
  · have HF : Hid (fitsB mi mb l i b = decide ((bytesN l : Int) + b ≤ mb)) := by (show _ = _); unfold fitsB; rw [decide_eq_true h1, Bool.true_and]
    have h2 : ¬ ((l.length : Int) + i > mi) := by omega
    go_upto_region 3 with fail
    generalize hw1 : w.alloc (.cells (fsC mi mb nx (.slice a l.length ca)) 24) = w1 at *
    have HMK : ∀ W, Below w1.heap.size w1 W → (W.cell? ⟨w.heap.size, 0, none⟩ = some (.int .i64 mi) ∧ W.cell? ⟨w.heap.size, 1, none⟩ = some (.int .i64 mb) ∧ W.cell? ⟨w.heap.size, 2, none⟩ = some (.int .i64 nx) ∧ W.cell? ⟨w.heap.size, 3, none⟩ = some (.slice a l.length ca)) := by
      intro W h
      exact (b0.next h).four.1
    have hq := (Below.refl w1.heap.size w1).drew
    clear b0 p0 p1 p2 p3 hw1
    go_region_held3 (fun W => W.cell? ⟨w.heap.size, 0, none⟩ = some (.int .i64 mi) ∧ W.cell? ⟨w.heap.size, 1, none⟩ = some (.int .i64 mb) ∧ W.cell? ⟨w.heap.size, 2, none⟩ = some (.int .i64 nx) ∧ W.cell? ⟨w.heap.size, 3, none⟩ = some (.slice a l.length ca))
      (exact HMK _ hq)
      (first
        | (go_at_call 70; refine (refBytes_any mi mb nx l _ _ (nV.below hq) hl hs).mono ?_; rintro e wz ⟨rfl, bz⟩; have hq := hq.trans (bz.mono hq.size)))
    all_goals go_wp2
    all_goals go_ret
    all_goals exact ⟨ret_bool (by rw [HF.out]), hB0.trans (hq.mono hB0.size)⟩
  · have HF : Hid (fitsB mi mb l i b = false) := by (show _ = _); unfold fitsB; rw [decide_eq_false h1, Bool.false_and]
    have h2 : (l.length : Int) + i > mi := by omega
    go_wp2
    go_ret
    exact ⟨ret_bool (by rw [HF.out]), hB0⟩

def withinB (n : Int) : Bool := decide (-1099511627776 ≤ n) && decide (n ≤ 1099511627776)
end Go.Proofs.YtobepdmpacdakaaGreat
