import Derived.Test.YtdplndmhnfalhaaDoorQLawBase19
import Derived.BigQuiet
import Derived.Deep.LoopGhost
set_option linter.unusedVariables false
set_option linter.unusedSimpArgs false
/- For whatever few operations with short texts: their slots, whether they are a plan, and whether an undo plan, are the document's answers. -/
set_option linter.unusedVariables false
set_option linter.unusedSimpArgs false
namespace Go.Proofs.YtdplndmhnfalhaaDoor
open Go.ChangeShapes Go.WideShapes Go.ChangeAt Go.RowKit
set_option linter.unusedVariables false

/-- A row of numbers that is the call's own: where they lie. -/
theorem ints_at19 {w : World} {base : Nat} {e : TypeId} {v : Value} {L : List Int} (h : w.ownsRow base e 1 v L.length (intsO L)) : ∃ a c, v = .slice a L.length c ∧ (0 < L.length → ∃ g, a = some ⟨g, 0, none⟩ ∧ g < w.heap.size ∧ ∀ j (hj : j < L.length), w.cell? ⟨g, j, none⟩ = some (.int .i64 L[j])) := by
  rcases h.2 with ⟨rfl, h2⟩ | ⟨g, cap, cur, rfl, hg, hh, _⟩
  · exact ⟨none, 0, by rw [h2], fun hp => absurd hp (by omega)⟩
  · refine ⟨some ⟨g, 0, none⟩, cap, rfl, fun _ => ⟨g, rfl, (Array.getElem?_eq_some_iff.1 hh).1, fun j hj => ?_⟩⟩
    have := h.cells (g := g) rfl j (.int .i64 L[j]) (by simp [intsO, hj])
    rw [Addr.add_lit, Nat.zero_add] at this
    exact this
set_option maxHeartbeats 8000000 in
set_option maxRecDepth 100000 in
theorem lawPlans19 (l : List OpV) (v : Value) (w : World) (hL : Laid19 w) (hv : Ops w v l) :
    Calls Tryd.prog 4 #[v] w fun e w' => e = .returned (.bool true) ∧ Below w.heap.size w w' := by
  have HL := Lib.hid hL
  clear hL
  obtain ⟨a, ca, rfl⟩ := ops_slice hv
  cases hf : fewOw l
  · go_enter Tryd.func4, Tryd.ntmps4
    go_wp2_with fail; refine (awake19 _ HL.out).mono ?_; rintro e w1 ⟨rfl, b1⟩
    go_wp2_with fail; refine (fewOw_any l _ _ (hv.below b1)).mono ?_; rintro e w2 ⟨rfl, rfl⟩
    rw [hf]
    go_wp2_with fail; refine (awake19 _ (HL.out.next b1)).mono ?_; rintro e w2 ⟨rfl, b2⟩
    go_wp2
    go_ret
    exact ⟨rfl, b1.trans (b2.mono b1.size)⟩
  obtain ⟨h1, h2⟩ := few_short hf
  have hP1 := fun W hL2 hW => Plan19_any l (.slice a l.length ca) W hL2 hW h1 h2
  have hP2 := fun W hW => refPlan_any l (.slice a l.length ca) W hW h1 h2
  have hU1 := fun W hL2 hW => Undo19_any l (.slice a l.length ca) W hL2 hW h1 h2
  have hU2 := fun W hW => refUndo_any l (.slice a l.length ca) W hW h1 h2
  have hS1 := fun W hL2 hW => Slots19_any l (.slice a l.length ca) W hL2 hW h1
  have hS2 := fun W hW => refSlots_any l (.slice a l.length ca) W hW h1
  have hsn := slots_len l
  generalize planO l = rp at *
  generalize undoO l = ru at *
  generalize slotsO l = S at *
  clear h2
  have HV := Lib.hid hv
  go_enter Tryd.func4, Tryd.ntmps4
  go_wp2_with fail; refine (awake19 _ HL.out).mono ?_; rintro e w1 ⟨rfl, b1⟩
  go_wp2_with fail; refine (fewOw_any l _ _ (hv.below b1)).mono ?_; rintro e w2 ⟨rfl, rfl⟩
  rw [hf]
  clear hf hv
  go_wp2_with fail
  refine (hS1 _ (HL.out.next b1) (HV.out.below b1)).mono ?_
  rintro e w2 ⟨v2, rfl, o2, b2⟩
  obtain ⟨a2, c2, rfl, hx2⟩ := ints_at19 o2
  replace b2 := b1.trans (b2.mono b1.size)
  clear b1 o2 hS1
  go_wp2_with fail
  refine (hS2 _ (HV.out.below b2)).mono ?_
  rintro e w3 ⟨v3, rfl, o3, b3⟩
  obtain ⟨a3, c3, rfl, hx3⟩ := ints_at19 o3
  have HX2 := Lib.hid hx2
  have HX3 := Lib.hid hx3
  have B23 := Lib.hid b3
  replace b3 := b2.trans (b3.mono b2.size)
  clear b2 o3 hS2 hx2 hx3
  go_wp2
  go_loopw [5] (fun i wr => ∃ k : Nat, k ≤ S.length ∧ i = .int .i64 k ∧ Below w3.heap.size w3 wr) (fun i _ => S.length - (intOf i).toNat)
  case atStart => exact ⟨0, Nat.zero_le _, rfl, Below.refl _ _⟩
  case round =>
    obtain ⟨k, hk, rfl, hbw⟩ := hrel
    by_cases hlt : k < S.length
    · obtain ⟨g2, rfl, hg2, hc2⟩ := HX2.out (by omega)
      obtain ⟨g3, rfl, hg3, hc3⟩ := HX3.out (by omega)
      have e2 : wr.cell? ⟨g2, k, none⟩ = some (.int .i64 S[k]) := ((B23.out.trans (hbw.mono B23.out.size)).cell (p := ⟨g2, k, none⟩) hg2).trans (hc2 k hlt)
      have e3 : wr.cell? ⟨g3, k, none⟩ = some (.int .i64 S[k]) := (hbw.cell (p := ⟨g3, k, none⟩) hg3).trans (hc3 k hlt)
      have k0 : (0 : Int) ≤ (k : Int) := by omega
      have k1 : (k : Int) < (S.length : Int) := by omega
      clear hc2 hc3
      generalize S[k] = x at *
      go_wp2
      go_quiet (fail)
      go_wp2
      go_roundw
      case rel => exact ⟨k + 1, by omega, by go_num, below_drewN hbw _⟩
      case measure => simp [intOf]; omega
    · obtain rfl : k = S.length := by omega
      have b4 := b3.trans (hbw.mono b3.size)
      clear HX2 HX3 B23 b3 hbw
      go_wp2_with fail
      refine (hP1 _ (HL.out.next b4) (HV.out.below b4)).mono ?_
      rintro e w5 ⟨rfl, b5⟩
      replace b5 := b4.trans (b5.mono b4.size)
      clear b4 hP1
      go_wp2_with fail
      refine (hP2 _ (HV.out.below b5)).mono ?_
      rintro e w6 ⟨rfl, b6⟩
      replace b6 := b5.trans (b6.mono b5.size)
      clear b5 hP2
      go_wp2_with fail
      refine (hU1 _ (HL.out.next b6) (HV.out.below b6)).mono ?_
      rintro e w7 ⟨rfl, b7⟩
      replace b7 := b6.trans (b7.mono b6.size)
      clear b6 hU1
      go_wp2_with fail
      refine (hU2 _ (HV.out.below b7)).mono ?_
      rintro e w8 ⟨rfl, b8⟩
      go_wp2
      go_ret
      exact ⟨ret_bool (by simp), b7.trans (b8.mono b7.size)⟩
namespace LOpPlans
set_option maxRecDepth 100000 in
theorem lifted (os : Os) (started : os.Started) (H : Type) (enc : TypeId × Value → H) :
    ReturnsInHanded {} Tryd.checked os 4 .any (fun w args => (Rows.opPlansSpec.pre enc Tryd.prog Tryd.f4 [] false w args ∧ laidMetH Tryd.prog Rows.opPlansRow.laid w) ∧ sizedMet enc Tryd.prog Tryd.f4 (OpenSpec.ofChange Rows.opPlansSpec) false w args) (Rows.opPlansSpec.post enc Tryd.prog Tryd.f4 false true false false) := by
  refine returnsInHanded_of_change_and (C := Tryd.checked) (X := fun w _ => laidMetH Tryd.prog Rows.opPlansRow.laid w) (fun _ _ _ hh h => h.of_heap hh) (by kernel_rfl) started (by kernel_rfl) Tryd.func4
    (ChangeSpec.witness_shaped (enc := enc) (C := Tryd.checked) (os := os) (X := fun w _ => laidMetH Tryd.prog Rows.opPlansRow.laid w) false (World.laidAll Tryd.prog os Rows.opPlansRow.laid) #[.slice none 0 0] 8 (World.laidAll_os _ _ _)
      (World.shaped_of_ZipB (by kernel_rfl) (by kernel_rfl)) (by kernel_rfl) (by kernel_rfl) (by kernel_rfl)
      (by rw [MakeChecks.laidMetH_plain _ _ _ (by kernel_rfl)]; exact laidMet_laidAll _ (by kernel_rfl) (by kernel_rfl))) ?_
  intro W base args ds gs before hval0 hW hcnd _ hLaid _
  have hL := of_laid hLaid
  clear hLaid
  have hval : ∀ (j : Nat) t v, Tryd.f4.params[j]? = some t → args[j]? = some v → Value.okWide Tryd.prog W .any base t v := hval0
  have hW' := hW
  obtain ⟨p, q, hA0, hV, rfl, hfz, hnd⟩ := hW
  have hA : DataW.TrodAll enc Tryd.prog W 0 (fun _ => true) true Tryd.f4.params.toList args.toList ds p := hA0
  rw [Tryd.params4] at hA hval
  obtain ⟨v0, vs0, d0, ds0, p0, q0, hargs, rfl, rfl, k0, r0⟩ := trodAll_cons hA
  obtain ⟨rfl, rfl, rfl⟩ := trodAll_nil r0
  obtain rfl : args = #[v0] := by cases args; simp_all
  obtain ⟨rfl, rfl⟩ := trodVars_none hV
  have ok0 := hval 0 26 v0 rfl rfl
  have lt0 : ∀ x ∈ p0, x.block < W.heap.size := by obtain ⟨m, hm⟩ := k0; exact DataW.trod_lt m _ _ _ hm
  have C : Calls Tryd.prog 4 #[v0] W fun e w' => e = .returned (.bool true) ∧ Below W.heap.size W w' := by
    clear hA0 hval0 hval hW' hcnd hV hfz hnd
    obtain ⟨l, hl⟩ := ops_of_trod k0 ⟨_, ok0⟩
    exact lawPlans19 l _ W hL hl
  refine C.mono fun e W' ⟨he, bel⟩ => ?_
  subst he
  exact ⟨_, rfl, _, _, _, [], _, [], hW', trodAll_mk1 (shut_bool Tryd.underlying4 _), (trodAll_cons_mk (Below.trod laidOut (by kernel_rfl) (of_decide_eq_true (by kernel_rfl)) k0 bel lt0) trodAll_mk0), rfl, bel.frame _, fun h => by cases h⟩
theorem bare : Rows.OpPlansSaid :=
  OpenClaim.holds_of_wide 4 Tryd.f4 rfl rfl rfl rfl rfl rfl rfl ⟨rfl, rfl, rfl, rfl, rfl⟩ rfl rfl rfl rfl rfl (by kernel_rfl) Tryd.func4 (by kernel_rfl)
    (of_decide_eq_true (by kernel_rfl)) (by unfold Func.isWrapper; first | (rw [if_pos (by decide +kernel)]; kernel_rfl) | (rw [if_neg (by decide +kernel)]; exact ⟨rfl, rfl⟩))
    (fun os started H enc _ => lifted os started H enc)
theorem proved : Rows.OpPlansCardSaid :=
  Claim7.holds_tied_plain_at .later [] Rows.opPlansCard.laidKinds true Rows.opPlansCard.stood.harness false
    bare (fun _ h => by cases h) (by kernel_rfl) (fun _ h => by cases h) opPlans_row_tie rfl ⟨rfl, rfl⟩ (by kernel_rfl) rfl
    (fun f fn hf hfn => by
      obtain rfl : f = 4 := Option.some.inj ((show Tryd.prog.funcNamed "drayman/draymanlaw19.OpPlans" = some 4 by kernel_rfl).symm.trans hf) |>.symm
      obtain rfl : fn = Tryd.f4 := (Option.some.inj (Tryd.func4.symm.trans hfn)).symm
      exact ⟨by kernel_rfl, fun j t ht => by
        rw [Tryd.params4] at ht
        have hm : t ∈ [26] := by simpa using Array.mem_of_getElem? ht
        have hall : ([26].all fun u => !Tryd.prog.wantsStandIn u) = true := by kernel_rfl
        exact (show Tryd.prog.wantsStandIn t = false by simpa using List.all_eq_true.1 hall t hm)⟩)
    (by kernel_rfl)
#print axioms proved
end LOpPlans
end Go.Proofs.YtdplndmhnfalhaaDoor
