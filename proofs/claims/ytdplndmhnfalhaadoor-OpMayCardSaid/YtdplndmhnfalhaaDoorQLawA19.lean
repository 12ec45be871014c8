import Derived.Test.YtdplndmhnfalhaaDoorQLawBase19
import Derived.Deep.RegionHeld3
import Derived.Deep.CutRange
set_option linter.unusedVariables false
set_option linter.unusedSimpArgs false
/- For whatever operation with short texts: whether it may be is the document's answer. -/
set_option linter.unusedVariables false
set_option linter.unusedSimpArgs false
namespace Go.Proofs.YtdplndmhnfalhaaDoor
open Go.ChangeShapes Go.WideShapes Go.ChangeAt Go.RowKit
set_option linter.unusedVariables false

set_option maxHeartbeats 4000000 in
set_option maxRecDepth 100000 in
theorem lawMay19 (o : OpV) (w : World) (hL : Laid19 w) (hm : o.a.length ≤ maxLen ∧ o.b.length ≤ maxLen ∧ o.data.length ≤ maxLen) :
    Calls Tryd.prog 3 #[.agg (opC o)] w fun e w' => e = .returned (.bool true) ∧ Below w.heap.size w w' := by
  have HL := Lib.hid hL
  clear hL
  have bO := Blk.new w 23 (opC o)
  have hB : Below w.heap.size w (w.alloc (.cells (opC o) 23)) := (Below.refl _ w).alloc (Nat.le_refl _) _
  generalize hy : w.alloc (.cells (opC o) 23) = y at *
  go_enter Tryd.func3, Tryd.ntmps3
  go_wp2_with fail; refine (awake19 _ (HL.out.next hB)).mono ?_; rintro e w1 ⟨rfl, b1⟩
  replace bO := bO.next b1
  replace hB := hB.trans (b1.mono hB.size)
  clear b1 hy
  obtain ⟨p0, p1, p2, p3, p4⟩ := bO.five
  have b2 := (Below.refl w1.heap.size w1).alloc (Nat.le_refl _) (.cells (opC o) 23)
  have nO := one_op (Blk.new w1 23 (opC o)) hm
  go_wp2_with fail
  refine (fewOw_any [o] _ _ nO).mono ?_
  rintro e w2 ⟨rfl, rfl⟩
  replace bO := bO.next b2
  replace hB := hB.trans (b2.mono hB.size)
  clear b2 nO p0 p1 p2 p3 p4
  generalize w1.alloc (.cells (opC o) 23) = w2 at *
  cases hf : fewOw [o]
  · go_wp2_with fail; refine (awake19 _ (HL.out.next hB)).mono ?_; rintro e w3 ⟨rfl, b3⟩
    go_wp2
    go_ret
    exact ⟨rfl, hB.trans (b3.mono hB.size)⟩
  · have hs := (few_short hf).2 o (by simp)
    have hM := fun W (hW : Laid19 W) => May19_any o W hW hs.1 hs.2.1 hs.2.2
    have hR := fun W => refMayO_any o W hs.1 hs.2.1 hs.2.2
    generalize mayO o = r at *
    clear hf hm hs
    go_upto_region 3 with fail
    have HMK := fun W (h : Below w2.heap.size w2 W) => (bO.next h).five
    have hq : Below w2.heap.size w2 w2.drew := (Below.refl _ _).drew
    go_region_held3 (fun W => W.cell? ⟨w.heap.size, 0, none⟩ = some (.int .i64 o.kind) ∧ W.cell? ⟨w.heap.size, 1, none⟩ = some (.int .i64 o.slot) ∧ W.cell? ⟨w.heap.size, 2, none⟩ = some (.string ⟨o.a.toArray⟩) ∧ W.cell? ⟨w.heap.size, 3, none⟩ = some (.string ⟨o.b.toArray⟩) ∧ W.cell? ⟨w.heap.size, 4, none⟩ = some (.string ⟨o.data.toArray⟩))
      (first | with_reducible exact HMK _ hq)
      (first
        | (go_at_call 9; (with_reducible refine (hM _ (HL.out.next (hB.trans (hq.mono hB.size)))).mono ?_); rintro e w6 ⟨rfl, b6⟩; have hq := hq.trans (b6.mono hq.size))
        | (go_at_call 10; (with_reducible refine (hR _).mono ?_); rintro e w6 ⟨rfl, b6⟩; have hq := hq.trans (b6.mono hq.size)))
    all_goals go_wp2
    all_goals go_ret
    all_goals exact ⟨ret_bool (by simp), hB.trans (hq.mono hB.size)⟩
namespace LOpMay
set_option maxRecDepth 100000 in
theorem lifted (os : Os) (started : os.Started) (H : Type) (enc : TypeId × Value → H) :
    ReturnsInHanded {} Tryd.checked os 3 .any (fun w args => (Rows.opMaySpec.pre enc Tryd.prog Tryd.f3 [] false w args ∧ laidMetH Tryd.prog Rows.opMayRow.laid w) ∧ sizedMet enc Tryd.prog Tryd.f3 (OpenSpec.ofChange Rows.opMaySpec) false w args) (Rows.opMaySpec.post enc Tryd.prog Tryd.f3 false true false false) := by
  refine returnsInHanded_of_change_and (C := Tryd.checked) (X := fun w _ => laidMetH Tryd.prog Rows.opMayRow.laid w) (fun _ _ _ hh h => h.of_heap hh) (by kernel_rfl) started (by kernel_rfl) Tryd.func3
    (ChangeSpec.witness_shaped (enc := enc) (C := Tryd.checked) (os := os) (X := fun w _ => laidMetH Tryd.prog Rows.opMayRow.laid w) false (World.laidAll Tryd.prog os Rows.opMayRow.laid) #[.agg #[.int .i64 0, .int .i64 0, .string ByteArray.empty, .string ByteArray.empty, .string ByteArray.empty]] 8 (World.laidAll_os _ _ _)
      (World.shaped_of_ZipB (by kernel_rfl) (by kernel_rfl)) (by kernel_rfl) (by kernel_rfl) (by kernel_rfl)
      (by rw [MakeChecks.laidMetH_plain _ _ _ (by kernel_rfl)]; exact laidMet_laidAll _ (by kernel_rfl) (by kernel_rfl))) ?_
  intro W base args ds gs before hval0 hW hcnd _ hLaid _
  have hL := of_laid hLaid
  clear hLaid
  have hval : ∀ (j : Nat) t v, Tryd.f3.params[j]? = some t → args[j]? = some v → Value.okWide Tryd.prog W .any base t v := hval0
  have hW' := hW
  obtain ⟨p, q, hA0, hV, rfl, hfz, hnd⟩ := hW
  have hA : DataW.TrodAll enc Tryd.prog W 0 (fun _ => true) true Tryd.f3.params.toList args.toList ds p := hA0
  rw [Tryd.params3] at hA hval
  obtain ⟨v0, vs0, d0, ds0, p0, q0, hargs, rfl, rfl, k0, r0⟩ := trodAll_cons hA
  obtain ⟨rfl, rfl, rfl⟩ := trodAll_nil r0
  obtain rfl : args = #[v0] := by cases args; simp_all
  obtain ⟨rfl, rfl⟩ := trodVars_none hV
  have ok0 := hval 0 23 v0 rfl rfl
  have lt0 : ∀ x ∈ p0, x.block < W.heap.size := by obtain ⟨m, hm⟩ := k0; exact DataW.trod_lt m _ _ _ hm
  have C : Calls Tryd.prog 3 #[v0] W fun e w' => e = .returned (.bool true) ∧ Below W.heap.size W w' := by
    clear hA0 hval0 hval hW' hcnd hV hfz hnd
    obtain ⟨o, rfl, hm⟩ := op_of_trod ok0 k0
    exact lawMay19 o W hL hm
  refine C.mono fun e W' ⟨he, bel⟩ => ?_
  subst he
  exact ⟨_, rfl, _, _, _, [], _, [], hW', trodAll_mk1 (shut_bool Tryd.underlying4 _), (trodAll_cons_mk (Below.trod laidOut (by kernel_rfl) (of_decide_eq_true (by kernel_rfl)) k0 bel lt0) trodAll_mk0), rfl, bel.frame _, fun h => by cases h⟩
theorem bare : Rows.OpMaySaid :=
  OpenClaim.holds_of_wide 3 Tryd.f3 rfl rfl rfl rfl rfl rfl rfl ⟨rfl, rfl, rfl, rfl, rfl⟩ rfl rfl rfl rfl rfl (by kernel_rfl) Tryd.func3 (by kernel_rfl)
    (of_decide_eq_true (by kernel_rfl)) (by unfold Func.isWrapper; first | (rw [if_pos (by decide +kernel)]; kernel_rfl) | (rw [if_neg (by decide +kernel)]; exact ⟨rfl, rfl⟩))
    (fun os started H enc _ => lifted os started H enc)
theorem proved : Rows.OpMayCardSaid :=
  Claim7.holds_tied_plain_at .later [] Rows.opMayCard.laidKinds true Rows.opMayCard.stood.harness false
    bare (fun _ h => by cases h) (by kernel_rfl) (fun _ h => by cases h) opMay_row_tie rfl ⟨rfl, rfl⟩ (by kernel_rfl) rfl
    (fun f fn hf hfn => by
      obtain rfl : f = 3 := Option.some.inj ((show Tryd.prog.funcNamed "drayman/draymanlaw19.OpMay" = some 3 by kernel_rfl).symm.trans hf) |>.symm
      obtain rfl : fn = Tryd.f3 := (Option.some.inj (Tryd.func3.symm.trans hfn)).symm
      exact ⟨by kernel_rfl, fun j t ht => by
        rw [Tryd.params3] at ht
        have hm : t ∈ [23] := by simpa using Array.mem_of_getElem? ht
        have hall : ([23].all fun u => !Tryd.prog.wantsStandIn u) = true := by kernel_rfl
        exact (show Tryd.prog.wantsStandIn t = false by simpa using List.all_eq_true.1 hall t hm)⟩)
    (by kernel_rfl)
#print axioms proved
end LOpMay
end Go.Proofs.YtdplndmhnfalhaaDoor
