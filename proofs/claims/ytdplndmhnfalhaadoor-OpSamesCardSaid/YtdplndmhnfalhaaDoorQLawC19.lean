import Derived.Test.YtdplndmhnfalhaaDoorQLawBase19
set_option linter.unusedVariables false
set_option linter.unusedSimpArgs false
/- For whatever few operations with short texts: whether two lists are the same is the document's answer; each is the same as itself. -/
set_option linter.unusedVariables false
set_option linter.unusedSimpArgs false
namespace Go.Proofs.YtdplndmhnfalhaaDoor
open Go.ChangeShapes Go.WideShapes Go.ChangeAt Go.RowKit
set_option linter.unusedVariables false

set_option maxHeartbeats 4000000 in
theorem lawSames19 (l m : List OpV) (v u : Value) (w : World) (hL : Laid19 w) (hv : Ops w v l) (hu : Ops w u m) :
    Calls Tryd.prog 5 #[v, u] w fun e w' => e = .returned (.bool true) ∧ Below w.heap.size w w' := by
  have HL := Lib.hid hL
  clear hL
  obtain ⟨a, ca, rfl⟩ := ops_slice hv
  obtain ⟨b, cb, rfl⟩ := ops_slice hu
  cases hf : fewOw l
  · go_enter Tryd.func5, Tryd.ntmps5
    go_wp2_with fail; refine (awake19 _ HL.out).mono ?_; rintro e w1 ⟨rfl, b1⟩
    go_wp2_with fail; refine (fewOw_any l _ _ (hv.below b1)).mono ?_; rintro e w2 ⟨rfl, rfl⟩
    rw [hf]
    go_wp2_with fail; refine (awake19 _ (HL.out.next b1)).mono ?_; rintro e w2 ⟨rfl, b2⟩
    go_wp2
    go_ret
    exact ⟨rfl, b1.trans (b2.mono b1.size)⟩
  cases hg : fewOw m
  · go_enter Tryd.func5, Tryd.ntmps5
    go_wp2_with fail; refine (awake19 _ HL.out).mono ?_; rintro e w1 ⟨rfl, b1⟩
    go_wp2_with fail; refine (fewOw_any l _ _ (hv.below b1)).mono ?_; rintro e w2 ⟨rfl, rfl⟩
    rw [hf]
    go_wp2_with fail; refine (fewOw_any m _ _ (hu.below b1)).mono ?_; rintro e w2 ⟨rfl, rfl⟩
    rw [hg]
    go_wp2_with fail; refine (awake19 _ (HL.out.next b1)).mono ?_; rintro e w2 ⟨rfl, b2⟩
    go_wp2
    go_ret
    exact ⟨rfl, b1.trans (b2.mono b1.size)⟩
  have h1 := (few_short hf).1
  have h2 := (few_short hg).1
  go_enter Tryd.func5, Tryd.ntmps5
  go_wp2_with fail; refine (awake19 _ HL.out).mono ?_; rintro e w1 ⟨rfl, b1⟩
  go_wp2_with fail; refine (fewOw_any l _ _ (hv.below b1)).mono ?_; rintro e w2 ⟨rfl, rfl⟩
  rw [hf]
  go_wp2_with fail; refine (fewOw_any m _ _ (hu.below b1)).mono ?_; rintro e w2 ⟨rfl, rfl⟩
  rw [hg]
  clear hf hg
  go_wp2_with fail; refine (Same19_any l m _ _ _ (hv.below b1) (hu.below b1) h1 h2).mono ?_; rintro e w2 ⟨rfl, b2⟩
  replace b2 := b1.trans (b2.mono b1.size)
  clear b1
  go_wp2_with fail; refine (refSameO_any l m _ _ _ (hv.below b2) (hu.below b2)).mono ?_; rintro e w3 ⟨rfl, b3⟩
  replace b3 := b2.trans (b3.mono b2.size)
  clear b2
  have hS := Same19_any l l _ _ _ (hv.below b3) (hv.below b3) h1 h1
  rw [show sameO l l = true from decide_eq_true rfl] at hS
  generalize sameO l m = r at *
  go_wp2_with fail
  refine hS.mono ?_
  rintro e w4 ⟨rfl, b4⟩
  go_wp2
  go_ret
  exact ⟨ret_bool (by simp), b3.trans (b4.mono b3.size)⟩
namespace LOpSames
set_option maxRecDepth 100000 in
theorem lifted (os : Os) (started : os.Started) (H : Type) (enc : TypeId × Value → H) :
    ReturnsInHanded {} Tryd.checked os 5 .any (fun w args => (Rows.opSamesSpec.pre enc Tryd.prog Tryd.f5 [] false w args ∧ laidMetH Tryd.prog Rows.opSamesRow.laid w) ∧ sizedMet enc Tryd.prog Tryd.f5 (OpenSpec.ofChange Rows.opSamesSpec) false w args) (Rows.opSamesSpec.post enc Tryd.prog Tryd.f5 false true false false) := by
  refine returnsInHanded_of_change_and (C := Tryd.checked) (X := fun w _ => laidMetH Tryd.prog Rows.opSamesRow.laid w) (fun _ _ _ hh h => h.of_heap hh) (by kernel_rfl) started (by kernel_rfl) Tryd.func5
    (ChangeSpec.witness_shaped (enc := enc) (C := Tryd.checked) (os := os) (X := fun w _ => laidMetH Tryd.prog Rows.opSamesRow.laid w) false (World.laidAll Tryd.prog os Rows.opSamesRow.laid) #[.slice none 0 0, .slice none 0 0] 8 (World.laidAll_os _ _ _)
      (World.shaped_of_ZipB (by kernel_rfl) (by kernel_rfl)) (by kernel_rfl) (by kernel_rfl) (by kernel_rfl)
      (by rw [MakeChecks.laidMetH_plain _ _ _ (by kernel_rfl)]; exact laidMet_laidAll _ (by kernel_rfl) (by kernel_rfl))) ?_
  intro W base args ds gs before hval0 hW hcnd _ hLaid _
  have hL := of_laid hLaid
  clear hLaid
  have hval : ∀ (j : Nat) t v, Tryd.f5.params[j]? = some t → args[j]? = some v → Value.okWide Tryd.prog W .any base t v := hval0
  have hW' := hW
  obtain ⟨p, q, hA0, hV, rfl, hfz, hnd⟩ := hW
  have hA : DataW.TrodAll enc Tryd.prog W 0 (fun _ => true) true Tryd.f5.params.toList args.toList ds p := hA0
  rw [Tryd.params5] at hA hval
  obtain ⟨v0, vs0, d0, ds0, p0, q0, hargs, rfl, rfl, k0, r0⟩ := trodAll_cons hA
  obtain ⟨v1, vs1, d1, ds1, p1, q1, rfl, rfl, rfl, k1, r1⟩ := trodAll_cons r0
  obtain ⟨rfl, rfl, rfl⟩ := trodAll_nil r1
  obtain rfl : args = #[v0, v1] := by cases args; simp_all
  obtain ⟨rfl, rfl⟩ := trodVars_none hV
  have ok0 := hval 0 26 v0 rfl rfl
  have ok1 := hval 1 26 v1 rfl rfl
  have lt0 : ∀ x ∈ p0, x.block < W.heap.size := by obtain ⟨m, hm⟩ := k0; exact DataW.trod_lt m _ _ _ hm
  have lt1 : ∀ x ∈ p1, x.block < W.heap.size := by obtain ⟨m, hm⟩ := k1; exact DataW.trod_lt m _ _ _ hm
  have C : Calls Tryd.prog 5 #[v0, v1] W fun e w' => e = .returned (.bool true) ∧ Below W.heap.size W w' := by
    clear hA0 hval0 hval hW' hcnd hV hfz hnd
    obtain ⟨l, hl⟩ := ops_of_trod k0 ⟨_, ok0⟩
    obtain ⟨m, hm⟩ := ops_of_trod k1 ⟨_, ok1⟩
    exact lawSames19 l m _ _ W hL hl hm
  refine C.mono fun e W' ⟨he, bel⟩ => ?_
  subst he
  exact ⟨_, rfl, _, _, _, [], _, [], hW', trodAll_mk1 (shut_bool Tryd.underlying4 _), (trodAll_cons_mk (Below.trod laidOut (by kernel_rfl) (of_decide_eq_true (by kernel_rfl)) k0 bel lt0) (trodAll_cons_mk (Below.trod laidOut (by kernel_rfl) (of_decide_eq_true (by kernel_rfl)) k1 bel lt1) trodAll_mk0)), rfl, bel.frame _, fun h => by cases h⟩
theorem bare : Rows.OpSamesSaid :=
  OpenClaim.holds_of_wide 5 Tryd.f5 rfl rfl rfl rfl rfl rfl rfl ⟨rfl, rfl, rfl, rfl, rfl⟩ rfl rfl rfl rfl rfl (by kernel_rfl) Tryd.func5 (by kernel_rfl)
    (of_decide_eq_true (by kernel_rfl)) (by unfold Func.isWrapper; first | (rw [if_pos (by decide +kernel)]; kernel_rfl) | (rw [if_neg (by decide +kernel)]; exact ⟨rfl, rfl⟩))
    (fun os started H enc _ => lifted os started H enc)
theorem proved : Rows.OpSamesCardSaid :=
  Claim7.holds_tied_plain_at .later [] Rows.opSamesCard.laidKinds true Rows.opSamesCard.stood.harness false
    bare (fun _ h => by cases h) (by kernel_rfl) (fun _ h => by cases h) opSames_row_tie rfl ⟨rfl, rfl⟩ (by kernel_rfl) rfl
    (fun f fn hf hfn => by
      obtain rfl : f = 5 := Option.some.inj ((show Tryd.prog.funcNamed "drayman/draymanlaw19.OpSames" = some 5 by kernel_rfl).symm.trans hf) |>.symm
      obtain rfl : fn = Tryd.f5 := (Option.some.inj (Tryd.func5.symm.trans hfn)).symm
      exact ⟨by kernel_rfl, fun j t ht => by
        rw [Tryd.params5] at ht
        have hm : t ∈ [26, 26] := by simpa using Array.mem_of_getElem? ht
        have hall : ([26, 26].all fun u => !Tryd.prog.wantsStandIn u) = true := by kernel_rfl
        exact (show Tryd.prog.wantsStandIn t = false by simpa using List.all_eq_true.1 hall t hm)⟩)
    (by kernel_rfl)
#print axioms proved
end LOpSames
end Go.Proofs.YtdplndmhnfalhaaDoor
