import Derived.Test.YtolbhjjcabiabaaGreatDoorQMLawBase20
import Derived.Laws.StructEq
import Derived.Test.YtolbhjjcabiabaaGreatDoorQMWalkU20
import Derived.Deep.RegionHeld3
set_option linter.unusedVariables false
set_option linter.unusedSimpArgs false
/- For whatever operation that may be: its line is the document's; for whatever line: so is the operation. -/
set_option linter.unusedVariables false
set_option linter.unusedSimpArgs false
namespace Go.Proofs.YtolbhjjcabiabaaGreatDoor
open Go.ChangeShapes Go.WideShapes Go.ChangeAt Go.RowKit
open Go.ChangeMaps (open_string shut_string)
set_option linter.unusedVariables false

set_option maxHeartbeats 8000000 in
set_option maxRecDepth 100000 in
theorem lawLines20 (o : OpV) (s : List UInt8) (w : World) (hL : Laid20 w) (ho : o.a.length ≤ maxLen ∧ o.b.length ≤ maxLen ∧ o.data.length ≤ maxLen) (hs : s.length ≤ maxLen) :
    Calls Tryz.prog 3 #[.agg (opC o), .string ⟨s.toArray⟩] w fun e w' => e = .returned (.bool true) ∧ Below w.heap.size w w' := by
  unfold maxLen at hs
  have HL := Lib.hid hL
  clear hL
  have bO := Blk.new w 23 (opC o)
  have hB : Below w.heap.size w (w.alloc (.cells (opC o) 23)) := (Below.refl _ w).alloc (Nat.le_refl _) _
  generalize hW0 : w.alloc (.cells (opC o) 23) = W0 at *
  cases hf : fewOw [o]
  · go_enter Tryz.func3, Tryz.ntmps3
    go_wp2_with fail; refine (awake20 _ (HL.out.next hB)).mono ?_; rintro e w1 ⟨rfl, b1⟩
    replace bO := bO.next b1
    replace hB := hB.trans (b1.mono hB.size)
    clear b1 hW0
    obtain ⟨p0, p1, p2, p3, p4⟩ := bO.five
    have n1 := ops_at20 w1 23 (opC o) [o] w1.heap.size 1 rfl (by simp [opsV]) rfl (by simp [maxLen]) (fun c hc => by rw [List.mem_singleton.1 hc]; exact ho)
    have g1 := (Below.refl w1.heap.size w1).alloc (Nat.le_refl _) (.cells (opC o) 23)
    go_wp2_with fail
    refine (fewOw_any [o] _ _ n1).mono ?_
    rintro e w2 ⟨rfl, rfl⟩
    rw [hf]
    replace hB := hB.trans (g1.mono hB.size)
    go_wp2_with fail; refine (awake20 _ (HL.out.next hB)).mono ?_; rintro e w3 ⟨rfl, b3⟩
    go_wp2
    go_ret
    exact ⟨rfl, hB.trans (b3.mono hB.size)⟩
  by_cases h3 : 3000 < s.length
  · have h3i : (3000 : Int) < (s.length : Int) := by omega
    go_enter Tryz.func3, Tryz.ntmps3
    go_wp2_with fail; refine (awake20 _ (HL.out.next hB)).mono ?_; rintro e w1 ⟨rfl, b1⟩
    replace bO := bO.next b1
    replace hB := hB.trans (b1.mono hB.size)
    clear b1 hW0
    obtain ⟨p0, p1, p2, p3, p4⟩ := bO.five
    have n1 := ops_at20 w1 23 (opC o) [o] w1.heap.size 1 rfl (by simp [opsV]) rfl (by simp [maxLen]) (fun c hc => by rw [List.mem_singleton.1 hc]; exact ho)
    have g1 := (Below.refl w1.heap.size w1).alloc (Nat.le_refl _) (.cells (opC o) 23)
    go_wp2_with fail
    refine (fewOw_any [o] _ _ n1).mono ?_
    rintro e w2 ⟨rfl, rfl⟩
    rw [hf]
    replace hB := hB.trans (g1.mono hB.size)
    go_wp2_with fail; refine (awake20 _ (HL.out.next hB)).mono ?_; rintro e w3 ⟨rfl, b3⟩
    go_wp2
    go_ret
    exact ⟨rfl, hB.trans (b3.mono hB.size)⟩
  have h3i : ¬ (3000 : Int) < (s.length : Int) := by omega
  obtain ⟨h1, h2, _, _⟩ := few_puts hf
  have hso := h2 o (by simp)
  have hP := fun W (hLW : Laid20 W) => Read20_any s W hLW (by omega)
  have hR := fun W => refRead20_any s W (by omega)
  generalize (readO s).getD zeroO = O at *
  generalize (readO s).isSome = r at *
  have hM := fun W => refMayO_any o W (by have := hso.1; omega) (by have := hso.2.1; omega) (by have := hso.2.2; omega)
  have hLr := fun W (h0 : 0 ≤ o.slot) (h1 : o.slot ≤ 1099511627776) => refLine_any o W (by have := hso.1; omega) (by have := hso.2.1; omega) (by have := hso.2.2; omega) h0 h1
  have hLp := fun W (hLW : Laid20 W) (h0 : mayO o = true) => Line20_any o W hLW h0 hso
  go_enter Tryz.func3, Tryz.ntmps3
  go_wp2_with fail; refine (awake20 _ (HL.out.next hB)).mono ?_; rintro e w1 ⟨rfl, b1⟩
  replace bO := bO.next b1
  replace hB := hB.trans (b1.mono hB.size)
  clear b1 hW0
  obtain ⟨p0, p1, p2, p3, p4⟩ := bO.five
  have n1 := ops_at20 w1 23 (opC o) [o] w1.heap.size 1 rfl (by simp [opsV]) rfl (by simp [maxLen]) (fun c hc => by rw [List.mem_singleton.1 hc]; exact ho)
  have g1 := (Below.refl w1.heap.size w1).alloc (Nat.le_refl _) (.cells (opC o) 23)
  go_wp2_with fail
  refine (fewOw_any [o] _ _ n1).mono ?_
  rintro e w2 ⟨rfl, hwz⟩
  subst hwz
  rw [hf]
  replace bO := bO.next g1
  replace hB := hB.trans (g1.mono hB.size)
  clear n1 g1 hf p0 p1 p2 p3 p4
  go_upto_region 3 with fail
  generalize hwq : w1.alloc (.cells (opC o) 23) = wq at *
  go_wp2_with fail
  refine (hP _ (HL.out.next hB)).mono ?_
  rintro e w2 ⟨rfl, b2⟩
  clear hwq
  replace b2 := b2.trans (((Below.refl w2.heap.size w2).alloc (Nat.le_refl _) (.cells (opC O) 23)).mono b2.size)
  have bP := Blk.new w2 23 (opC O)
  replace bO := bO.next b2
  replace hB := hB.trans (b2.mono hB.size)
  clear b2 hP
  go_upto_region 4 with fail
  generalize hwy : w2.alloc (.cells (opC O) 23) = wy at *
  go_wp2_with fail
  refine (hR _).mono ?_
  rintro e w3 ⟨rfl, b3⟩
  clear hwy
  replace b3 := b3.trans (((Below.refl w3.heap.size w3).alloc (Nat.le_refl _) (.cells (opC O) 23)).mono b3.size)
  have bQ := Blk.new w3 23 (opC O)
  replace bO := bO.next b3
  replace bP := bP.next b3
  replace hB := hB.trans (b3.mono hB.size)
  clear b3 hR
  go_upto_region 5 with fail
  generalize hwx : w3.alloc (.cells (opC O) 23) = wx at *
  clear hwx
  generalize w3.heap.size = BQ at *
  generalize w2.heap.size = BP at *
  generalize hBO : w.heap.size = BO at *
  obtain ⟨Ok, Os, Oa, Ob, Od⟩ := O
  obtain ⟨ok, os, oa, ob, od⟩ := o
  dsimp only at hLr
  have HMK : ∀ W, Below wx.heap.size wx W → (W.cell? ⟨BO, 0, none⟩ = some (.int .i64 ok) ∧ W.cell? ⟨BO, 1, none⟩ = some (.int .i64 os) ∧ W.cell? ⟨BO, 2, none⟩ = some (.string ⟨oa.toArray⟩) ∧ W.cell? ⟨BO, 3, none⟩ = some (.string ⟨ob.toArray⟩) ∧ W.cell? ⟨BO, 4, none⟩ = some (.string ⟨od.toArray⟩)) ∧
      (W.cell? ⟨BP, 0, none⟩ = some (.int .i64 Ok) ∧ W.cell? ⟨BP, 1, none⟩ = some (.int .i64 Os) ∧ W.cell? ⟨BP, 2, none⟩ = some (.string ⟨Oa.toArray⟩) ∧ W.cell? ⟨BP, 3, none⟩ = some (.string ⟨Ob.toArray⟩) ∧ W.cell? ⟨BP, 4, none⟩ = some (.string ⟨Od.toArray⟩)) ∧
      (W.cell? ⟨BQ, 0, none⟩ = some (.int .i64 Ok) ∧ W.cell? ⟨BQ, 1, none⟩ = some (.int .i64 Os) ∧ W.cell? ⟨BQ, 2, none⟩ = some (.string ⟨Oa.toArray⟩) ∧ W.cell? ⟨BQ, 3, none⟩ = some (.string ⟨Ob.toArray⟩) ∧ W.cell? ⟨BQ, 4, none⟩ = some (.string ⟨Od.toArray⟩)) := fun W h => ⟨(bO.next h).five, (bP.next h).five, (bQ.next h).five⟩
  have hq : Below wx.heap.size wx wx.drew := (Below.refl _ _).drew
  have HLX : Hid (Laid20 wx) := Lib.hid (HL.out.next (show Below w.heap.size w wx by rw [hBO]; exact hB))
  cases hmm : mayO ⟨ok, os, oa, ob, od⟩
  · rw [hmm] at hM
    clear hLp hLr
    (refine wp_region_held_drew (S := (fun W => (W.cell? ⟨BO, 0, none⟩ = some (.int .i64 ok) ∧ W.cell? ⟨BO, 1, none⟩ = some (.int .i64 os) ∧ W.cell? ⟨BO, 2, none⟩ = some (.string ⟨oa.toArray⟩) ∧ W.cell? ⟨BO, 3, none⟩ = some (.string ⟨ob.toArray⟩) ∧ W.cell? ⟨BO, 4, none⟩ = some (.string ⟨od.toArray⟩)) ∧ (W.cell? ⟨BP, 0, none⟩ = some (.int .i64 Ok) ∧ W.cell? ⟨BP, 1, none⟩ = some (.int .i64 Os) ∧ W.cell? ⟨BP, 2, none⟩ = some (.string ⟨Oa.toArray⟩) ∧ W.cell? ⟨BP, 3, none⟩ = some (.string ⟨Ob.toArray⟩) ∧ W.cell? ⟨BP, 4, none⟩ = some (.string ⟨Od.toArray⟩)) ∧ (W.cell? ⟨BQ, 0, none⟩ = some (.int .i64 Ok) ∧ W.cell? ⟨BQ, 1, none⟩ = some (.int .i64 Os) ∧ W.cell? ⟨BQ, 2, none⟩ = some (.string ⟨Oa.toArray⟩) ∧ W.cell? ⟨BQ, 3, none⟩ = some (.string ⟨Ob.toArray⟩) ∧ W.cell? ⟨BQ, 4, none⟩ = some (.string ⟨Od.toArray⟩)))) (by kernel_rfl) (HMK _ hq) (fun hHeld => ?_))
    (refine heldTake 0 (some 33) (v := ?_) rfl rfl (by kernel_rfl) (by kernel_rfl) (by kernel_rfl) (fun _ _ _ h => h) (by rfl) ?_ (by assumption) ?_; rotate_left; (focus (intro w hSw; (try dsimp only at hSw); go_simp; try with_reducible rfl)); (try simp only [Act.put, List.setIfInBounds_toArray, List.set_cons_zero, List.set_cons_succ]))
    (refine heldTake 1 (some 34) (v := ?_) rfl rfl (by kernel_rfl) (by kernel_rfl) (by kernel_rfl) (fun _ _ _ h => h) (by rfl) ?_ (by assumption) ?_; rotate_left; (focus (intro w hSw; (try dsimp only at hSw); go_simp; try with_reducible rfl)); (try simp only [Act.put, List.setIfInBounds_toArray, List.set_cons_zero, List.set_cons_succ]))
    (refine heldTake 2 (some 35) (v := ?_) rfl rfl (by kernel_rfl) (by kernel_rfl) (by kernel_rfl) (fun _ _ _ h => h) (by rfl) ?_ (by assumption) ?_; rotate_left; (focus (intro w hSw; (try dsimp only at hSw); go_simp; try with_reducible rfl)); (try simp only [Act.put, List.setIfInBounds_toArray, List.set_cons_zero, List.set_cons_succ]))
    (refine heldTake 3 (some 36) (v := ?_) rfl rfl (by kernel_rfl) (by kernel_rfl) (by kernel_rfl) (fun _ _ _ h => h) (by rfl) ?_ (by assumption) ?_; rotate_left; (focus (intro w hSw; (try dsimp only at hSw); go_simp; try with_reducible rfl)); (try simp only [Act.put, List.setIfInBounds_toArray, List.set_cons_zero, List.set_cons_succ]))
    (refine heldTake 4 (some 37) (v := ?_) rfl rfl (by kernel_rfl) (by kernel_rfl) (by kernel_rfl) (fun _ _ _ h => h) (by rfl) ?_ (by assumption) ?_; rotate_left; (focus (intro w hSw; (try dsimp only at hSw); go_simp; try with_reducible rfl)); (try simp only [Act.put, List.setIfInBounds_toArray, List.set_cons_zero, List.set_cons_succ]))
    (refine heldTake 5 (some 38) (v := ?_) rfl rfl (by kernel_rfl) (by kernel_rfl) (by kernel_rfl) (fun _ _ _ h => h) (by rfl) ?_ (by assumption) ?_; rotate_left; (focus (intro w hSw; (try dsimp only at hSw); go_simp; try with_reducible rfl)); (try simp only [Act.put, List.setIfInBounds_toArray, List.set_cons_zero, List.set_cons_succ]))
    (refine heldTake 6 (some 39) (v := ?_) rfl rfl (by kernel_rfl) (by kernel_rfl) (by kernel_rfl) (fun _ _ _ h => h) (by rfl) ?_ (by assumption) ?_; rotate_left; (focus (intro w hSw; (try dsimp only at hSw); go_simp; try with_reducible rfl)); (try simp only [Act.put, List.setIfInBounds_toArray, List.set_cons_zero, List.set_cons_succ]))
    (refine heldTake 7 (some 40) (v := ?_) rfl rfl (by kernel_rfl) (by kernel_rfl) (by kernel_rfl) (fun _ _ _ h => h) (by rfl) ?_ (by assumption) ?_; rotate_left; (focus (intro w hSw; (try dsimp only at hSw); go_simp; try with_reducible rfl)); (try simp only [Act.put, List.setIfInBounds_toArray, List.set_cons_zero, List.set_cons_succ]))
    (refine heldTake 8 (some 41) (v := ?_) rfl rfl (by kernel_rfl) (by kernel_rfl) (by kernel_rfl) (fun _ _ _ h => h) (by rfl) ?_ (by assumption) ?_; rotate_left; (focus (intro w hSw; (try dsimp only at hSw); go_simp; try with_reducible rfl)); (try simp only [Act.put, List.setIfInBounds_toArray, List.set_cons_zero, List.set_cons_succ]))
    (refine heldTake 9 (some 42) (v := ?_) rfl rfl (by kernel_rfl) (by kernel_rfl) (by kernel_rfl) (fun _ _ _ h => h) (by rfl) ?_ (by assumption) ?_; rotate_left; (focus (intro w hSw; (try dsimp only at hSw); go_simp; try with_reducible rfl)); (try simp only [Act.put, List.setIfInBounds_toArray, List.set_cons_zero, List.set_cons_succ]))
    (refine wpAnyH_ready (rs := [10]) (by kernel_rfl) (by simp) ?_; refine AllReadyH.cons rfl (fun K hK => ?_) AllReadyH.nil; go_simp; (go_at_call 12; (with_reducible refine (hM _).mono ?_); rintro e w6 ⟨rfl, b6⟩; have hq := hq.trans (b6.mono hq.size)); (try dsimp only); refine hK.out _ _ (HMK _ hq) (fun hHeld => ?_); clear hK K; (try simp only [Act.put, List.setIfInBounds_toArray, List.set_cons_zero, List.set_cons_succ]))
    (refine heldTake 11 (some 44) (v := ?_) rfl rfl (by kernel_rfl) (by kernel_rfl) (by kernel_rfl) (fun _ _ _ h => h) (by rfl) ?_ (by assumption) ?_; rotate_left; (focus (intro w hSw; (try dsimp only at hSw); go_simp; try with_reducible rfl)); (try simp only [Act.put, List.setIfInBounds_toArray, List.set_cons_zero, List.set_cons_succ]))
    (refine heldTake 12 (some 45) (v := ?_) rfl rfl (by kernel_rfl) (by kernel_rfl) (by kernel_rfl) (fun _ _ _ h => h) (by rfl) ?_ (by assumption) ?_; rotate_left; (focus (intro w hSw; (try dsimp only at hSw); go_simp; try with_reducible rfl)); (try simp only [Act.put, List.setIfInBounds_toArray, List.set_cons_zero, List.set_cons_succ]))
    (refine heldSkip 13 (some 46) rfl rfl (by kernel_rfl) (by kernel_rfl) (by kernel_rfl) (fun _ _ _ h => h) (by rfl) (by assumption) ?_; (try simp only [Act.put, List.setIfInBounds_toArray, List.set_cons_zero, List.set_cons_succ]))
    (refine heldSkip 14 (some 47) rfl rfl (by kernel_rfl) (by kernel_rfl) (by kernel_rfl) (fun _ _ _ h => h) (by rfl) (by assumption) ?_; (try simp only [Act.put, List.setIfInBounds_toArray, List.set_cons_zero, List.set_cons_succ]))
    (refine heldSkip 15 (some 48) rfl rfl (by kernel_rfl) (by kernel_rfl) (by kernel_rfl) (fun _ _ _ h => h) (by rfl) (by assumption) ?_; (try simp only [Act.put, List.setIfInBounds_toArray, List.set_cons_zero, List.set_cons_succ]))
    (refine heldSkip 16 (some 49) rfl rfl (by kernel_rfl) (by kernel_rfl) (by kernel_rfl) (fun _ _ _ h => h) (by rfl) (by assumption) ?_; (try simp only [Act.put, List.setIfInBounds_toArray, List.set_cons_zero, List.set_cons_succ]))
    (refine heldSkip 17 (some 50) rfl rfl (by kernel_rfl) (by kernel_rfl) (by kernel_rfl) (fun _ _ _ h => h) (by rfl) (by assumption) ?_; (try simp only [Act.put, List.setIfInBounds_toArray, List.set_cons_zero, List.set_cons_succ]))
    (refine heldTake 18 (some 51) (v := ?_) rfl rfl (by kernel_rfl) (by kernel_rfl) (by kernel_rfl) (fun _ _ _ h => h) (by rfl) ?_ (by assumption) ?_; rotate_left; (focus (intro w hSw; (try dsimp only at hSw); go_simp; try with_reducible rfl)); (try simp only [Act.put, List.setIfInBounds_toArray, List.set_cons_zero, List.set_cons_succ]))
    (refine heldTake 19 (some 52) (v := ?_) rfl rfl (by kernel_rfl) (by kernel_rfl) (by kernel_rfl) (fun _ _ _ h => h) (by rfl) ?_ (by assumption) ?_; rotate_left; (focus (intro w hSw; (try dsimp only at hSw); go_simp; try with_reducible rfl)); (try simp only [Act.put, List.setIfInBounds_toArray, List.set_cons_zero, List.set_cons_succ]))
    (refine heldTake 20 (some 4) (v := ?_) rfl rfl (by kernel_rfl) (by kernel_rfl) (by kernel_rfl) (fun _ _ _ h => h) (by rfl) ?_ (by assumption) ?_; rotate_left; (focus (intro w hSw; (try dsimp only at hSw); go_simp; try with_reducible rfl)); (try simp only [Act.put, List.setIfInBounds_toArray, List.set_cons_zero, List.set_cons_succ]))
    refine wpAnyH_done (by kernel_rfl) ?_ _
    go_wp2
    go_ret
    subst hBO
    exact ⟨ret_bool (by simp), hB.trans (hq.mono hB.size)⟩
  · rw [hmm] at hM
    obtain ⟨m1, m2⟩ := may_slot20 hmm
    dsimp only at m1 m2
    have hLp2 := fun W (hLW : Laid20 W) => hLp W hLW hmm
    have hLr2 := fun W => hLr W m1 (by omega)
    clear hLp hLr
    generalize lineO ⟨ok, os, oa, ob, od⟩ = ln at *
    go_region_held3 (fun W => (W.cell? ⟨BO, 0, none⟩ = some (.int .i64 ok) ∧ W.cell? ⟨BO, 1, none⟩ = some (.int .i64 os) ∧ W.cell? ⟨BO, 2, none⟩ = some (.string ⟨oa.toArray⟩) ∧ W.cell? ⟨BO, 3, none⟩ = some (.string ⟨ob.toArray⟩) ∧ W.cell? ⟨BO, 4, none⟩ = some (.string ⟨od.toArray⟩)) ∧ (W.cell? ⟨BP, 0, none⟩ = some (.int .i64 Ok) ∧ W.cell? ⟨BP, 1, none⟩ = some (.int .i64 Os) ∧ W.cell? ⟨BP, 2, none⟩ = some (.string ⟨Oa.toArray⟩) ∧ W.cell? ⟨BP, 3, none⟩ = some (.string ⟨Ob.toArray⟩) ∧ W.cell? ⟨BP, 4, none⟩ = some (.string ⟨Od.toArray⟩)) ∧ (W.cell? ⟨BQ, 0, none⟩ = some (.int .i64 Ok) ∧ W.cell? ⟨BQ, 1, none⟩ = some (.int .i64 Os) ∧ W.cell? ⟨BQ, 2, none⟩ = some (.string ⟨Oa.toArray⟩) ∧ W.cell? ⟨BQ, 3, none⟩ = some (.string ⟨Ob.toArray⟩) ∧ W.cell? ⟨BQ, 4, none⟩ = some (.string ⟨Od.toArray⟩)))
      (first | with_reducible exact HMK _ hq)
      (first
        | (go_at_call 12; (with_reducible refine (hM _).mono ?_); rintro e w6 ⟨rfl, b6⟩; have hq := hq.trans (b6.mono hq.size))
        | (go_at_call 13; (with_reducible refine (hLp2 _ (HLX.out.next hq)).mono ?_); rintro e w6 ⟨rfl, b6⟩; have hq := hq.trans (b6.mono hq.size))
        | (go_at_call 14; (with_reducible refine (hLr2 _).mono ?_); rintro e w6 ⟨rfl, b6⟩; have hq := hq.trans (b6.mono hq.size)))
    all_goals go_wp2
    all_goals go_ret
    all_goals subst hBO
    all_goals exact ⟨ret_bool (by simp), hB.trans (hq.mono hB.size)⟩
namespace LLangLines
set_option maxRecDepth 100000 in
theorem lifted (os : Os) (started : os.Started) (H : Type) (enc : TypeId × Value → H) :
    ReturnsInHanded {} Tryz.checked os 3 .any (fun w args => (Rows.langLinesSpec.pre enc Tryz.prog Tryz.f3 [] false w args ∧ laidMetH Tryz.prog Rows.langLinesRow.laid w) ∧ sizedMet enc Tryz.prog Tryz.f3 (OpenSpec.ofChange Rows.langLinesSpec) false w args) (Rows.langLinesSpec.post enc Tryz.prog Tryz.f3 false true false false) := by
  refine returnsInHanded_of_change_and (C := Tryz.checked) (X := fun w _ => laidMetH Tryz.prog Rows.langLinesRow.laid w) (fun _ _ _ hh h => h.of_heap hh) (by kernel_rfl) started (by kernel_rfl) Tryz.func3
    (ChangeSpec.witness_shaped (enc := enc) (C := Tryz.checked) (os := os) (X := fun w _ => laidMetH Tryz.prog Rows.langLinesRow.laid w) false (World.laidAll Tryz.prog os Rows.langLinesRow.laid) #[.agg #[.int .i64 0, .int .i64 0, .string ByteArray.empty, .string ByteArray.empty, .string ByteArray.empty], .string ByteArray.empty] 8 (World.laidAll_os _ _ _)
      (World.shaped_of_ZipB (by kernel_rfl) (by kernel_rfl)) (by kernel_rfl) (by kernel_rfl) (by kernel_rfl)
      (by rw [MakeChecks.laidMetH_plain _ _ _ (by kernel_rfl)]; exact laidMet_laidAll _ (by kernel_rfl) (by kernel_rfl))) ?_
  intro W base args ds gs before hval0 hW hcnd _ hLaid _
  have hL := of_laid hLaid
  clear hLaid
  have hval : ∀ (j : Nat) t v, Tryz.f3.params[j]? = some t → args[j]? = some v → Value.okWide Tryz.prog W .any base t v := hval0
  have hW' := hW
  obtain ⟨p, q, hA0, hV, rfl, hfz, hnd⟩ := hW
  have hA : DataW.TrodAll enc Tryz.prog W 0 (fun _ => true) true Tryz.f3.params.toList args.toList ds p := hA0
  rw [Tryz.params3] at hA hval
  obtain ⟨v0, vs0, d0, ds0, p0, q0, hargs, rfl, rfl, k0, r0⟩ := trodAll_cons hA
  obtain ⟨v1, vs1, d1, ds1, p1, q1, rfl, rfl, rfl, k1, r1⟩ := trodAll_cons r0
  obtain ⟨rfl, rfl, rfl⟩ := trodAll_nil r1
  obtain rfl : args = #[v0, v1] := by cases args; simp_all
  obtain ⟨rfl, rfl⟩ := trodVars_none hV
  have ok0 := hval 0 23 v0 rfl rfl
  have ok1 := hval 1 9 v1 rfl rfl
  have lt0 : ∀ x ∈ p0, x.block < W.heap.size := by obtain ⟨m, hm⟩ := k0; exact DataW.trod_lt m _ _ _ hm
  have lt1 : ∀ x ∈ p1, x.block < W.heap.size := by obtain ⟨m, hm⟩ := k1; exact DataW.trod_lt m _ _ _ hm
  have C : Calls Tryz.prog 3 #[v0, v1] W fun e w' => e = .returned (.bool true) ∧ Below W.heap.size W w' := by
    clear hA0 hval0 hval hW' hcnd hV hfz hnd
    obtain ⟨o, rfl, h1, h2, h3⟩ := op_of_trod ok0 k0
    obtain ⟨s, rfl, rfl, rfl, hs⟩ := open_string Tryz.underlying9 ok1 k1
    exact lawLines20 o _ W hL ⟨h1, h2, h3⟩ (str_len hs)
  refine C.mono fun e W' ⟨he, bel⟩ => ?_
  subst he
  exact ⟨_, rfl, _, _, _, [], _, [], hW', trodAll_mk1 (shut_bool Tryz.underlying4 _), (trodAll_cons_mk (Below.trod laidOut (by kernel_rfl) (of_decide_eq_true (by kernel_rfl)) k0 bel lt0) (trodAll_cons_mk (Below.trod laidOut (by kernel_rfl) (of_decide_eq_true (by kernel_rfl)) k1 bel lt1) trodAll_mk0)), rfl, bel.frame _, fun h => by cases h⟩
theorem bare : Rows.LangLinesSaid :=
  OpenClaim.holds_of_wide 3 Tryz.f3 rfl rfl rfl rfl rfl rfl rfl ⟨rfl, rfl, rfl, rfl, rfl⟩ rfl rfl rfl rfl rfl (by kernel_rfl) Tryz.func3 (by kernel_rfl)
    (of_decide_eq_true (by kernel_rfl)) (by unfold Func.isWrapper; first | (rw [if_pos (by decide +kernel)]; kernel_rfl) | (rw [if_neg (by decide +kernel)]; exact ⟨rfl, rfl⟩))
    (fun os started H enc _ => lifted os started H enc)
theorem proved : Rows.LangLinesCardSaid :=
  Claim7.holds_tied_plain_at .later [] Rows.langLinesCard.laidKinds true Rows.langLinesCard.stood.harness Rows.langLinesCard.stood.looks
    bare (fun _ h => by cases h) (by kernel_rfl) (fun _ h => by cases h) langLines_row_tie rfl ⟨rfl, rfl⟩ (by kernel_rfl) rfl
    (fun f fn hf hfn => by
      obtain rfl : f = 3 := Option.some.inj ((show Tryz.prog.funcNamed "drayman/draymanlaw20.LangLines" = some 3 by kernel_rfl).symm.trans hf) |>.symm
      obtain rfl : fn = Tryz.f3 := (Option.some.inj (Tryz.func3.symm.trans hfn)).symm
      exact ⟨by kernel_rfl, fun j t ht => by
        rw [Tryz.params3] at ht
        have hm : t ∈ [23, 9] := by simpa using Array.mem_of_getElem? ht
        have hall : ([23, 9].all fun u => !Tryz.prog.wantsStandIn u) = true := by kernel_rfl
        exact (show Tryz.prog.wantsStandIn t = false by simpa using List.all_eq_true.1 hall t hm)⟩)
    (by kernel_rfl)
#print axioms proved
end LLangLines
end Go.Proofs.YtolbhjjcabiabaaGreatDoor
