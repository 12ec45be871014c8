/- For every text: errs.Find answers the error whose message, as the document has it, the text is, or that it is none's. -/
import Derived.Test.YtkebkfhiihblcaaDoorLawBase02
namespace Go.Proofs.YtkebkfhiihblcaaDoor
open Go.ChangeShapes Go.WideShapes Go.ChangeAt Go.RowKit
open Go.ChangeMaps (open_string shut_string)
set_option linter.unusedVariables false

theorem lawFinds (s : List UInt8) (w : World) (hL : Laid w) :
    Calls Tryd.prog 4 #[.string ⟨s.toArray⟩] w fun e w' => e = .returned (.bool true) ∧ Below w.heap.size w w' := by
  have HL := Lib.hid hL
  clear hL
  generalize hf : findM s = o
  cases o with
  | none =>
    have HN := Lib.hid hf
    clear hf
    go_enter Tryd.func4, Tryd.ntmps4
    go_wp2_with fail; refine (awake_any _ HL.out).mono ?_; rintro e w1 ⟨rfl, b1⟩
    have HL1 := Lib.hid (HL.out.next b1)
    go_wp2_with fail
    refine (aw_find_no s _ HL1.out HN.out).mono ?_
    rintro e w' ⟨rfl, rfl⟩
    go_wp2
    go_loop [5] (fun i => ∃ k : Nat, k ≤ 14 ∧ i = .int .i64 k) (fun i => 14 - (intOf i).toNat)
    case atStart => exact ⟨0, Nat.zero_le _, rfl⟩
    case round =>
      obtain ⟨k, hk, rfl⟩ := hrel
      by_cases hlt : k < 14
      · have hne : (msgAt k == s) = false := by
          rw [beq_eq_false_iff_ne]
          intro e
          have := findM_msg k hlt
          rw [e, HN.out] at this
          cases this
        have hle : (k : Int) ≤ 13 := by omega
        go_wp2_with fail
        refine (refMessage_any (k : Int) _).mono ?_
        rintro e w' ⟨rfl, rfl⟩
        rw [msgOf_nat k hlt]
        go_wp2
        go_round
        case rel => exact ⟨k + 1, by omega, by go_num⟩
        case measure => simp [intOf]; omega
      · have hgt : ¬ (k : Int) ≤ 13 := by omega
        go_wp2
        go_ret
        exact ⟨rfl, b1⟩
  | some j =>
    have HF := Lib.hid (findM_some hf)
    have HN := Lib.hid hf
    clear hf
    go_enter Tryd.func4, Tryd.ntmps4
    go_wp2_with fail; refine (awake_any _ HL.out).mono ?_; rintro e w1 ⟨rfl, b1⟩
    have HL1 := Lib.hid (HL.out.next b1)
    go_wp2_with fail
    refine (aw_find s j _ HL1.out HN.out).mono ?_
    rintro e w' ⟨rfl, rfl⟩
    go_wp2
    go_loop [5] (fun i => ∃ k : Nat, k ≤ j ∧ i = .int .i64 k) (fun i => 14 - (intOf i).toNat)
    case atStart => exact ⟨0, Nat.zero_le _, rfl⟩
    case round =>
      obtain ⟨k, hk, rfl⟩ := hrel
      have hj := HF.out.1
      have hlt : k < 14 := by omega
      have hle : (k : Int) ≤ 13 := by omega
      by_cases hkj : k = j
      · subst hkj
        have he : (msgAt k == s) = true := by rw [beq_iff_eq]; exact HF.out.2
        go_wp2_with fail
        refine (refMessage_any (k : Int) _).mono ?_
        rintro e w' ⟨rfl, rfl⟩
        rw [msgOf_nat k hlt]
        go_wp2
        go_ret
        exact ⟨rfl, b1⟩
      · have hne : (msgAt k == s) = false := by
          rw [beq_eq_false_iff_ne]
          intro e
          have := findM_msg k hlt
          rw [e, HN.out] at this
          cases this
          exact hkj rfl
        go_wp2_with fail
        refine (refMessage_any (k : Int) _).mono ?_
        rintro e w' ⟨rfl, rfl⟩
        rw [msgOf_nat k hlt]
        go_wp2
        go_round
        case rel => exact ⟨k + 1, by omega, by go_num⟩
        case measure => simp [intOf]; omega

namespace LErrsFinds
set_option maxRecDepth 100000 in
theorem lifted (os : Os) (started : os.Started) (H : Type) (enc : TypeId × Value → H) :
    ReturnsInHanded {} Tryd.checked os 4 .any (fun w args => (Rows.errsFindsSpec.pre enc Tryd.prog Tryd.f4 [] false w args ∧ laidMetH Tryd.prog Rows.errsFindsRow.laid w) ∧ sizedMet enc Tryd.prog Tryd.f4 (OpenSpec.ofChange Rows.errsFindsSpec) false w args) (Rows.errsFindsSpec.post enc Tryd.prog Tryd.f4 false true false false) := by
  refine returnsInHanded_of_change_and (C := Tryd.checked) (X := fun w _ => laidMetH Tryd.prog Rows.errsFindsRow.laid w) (fun _ _ _ hh h => h.of_heap hh) (by kernel_rfl) started (by kernel_rfl) Tryd.func4
    (ChangeSpec.witness_shaped (enc := enc) (C := Tryd.checked) (os := os) (X := fun w _ => laidMetH Tryd.prog Rows.errsFindsRow.laid w) false (World.laidAll Tryd.prog os Rows.errsFindsRow.laid) #[.string ByteArray.empty] 8 (World.laidAll_os _ _ _)
      (World.shaped_of_ZipB (by kernel_rfl) (by kernel_rfl)) (by kernel_rfl) (by kernel_rfl) (by kernel_rfl)
      (by rw [MakeChecks.laidMetH_plain _ _ _ (by kernel_rfl)]; exact laidMet_laidAll _ (by kernel_rfl) (by kernel_rfl))) ?_
  intro W base args ds gs before hval0 hW hcnd _ hLaid _
  have hL : Laid W := of_laid hLaid
  clear hLaid
  have hval : ∀ (j : Nat) t v, Tryd.f4.params[j]? = some t → args[j]? = some v → Value.okWide Tryd.prog W .any base t v := hval0
  have hW' := hW
  obtain ⟨p, q, hA0, hV, rfl, hfz, hnd⟩ := hW
  have hA : DataW.TrodAll enc Tryd.prog W 0 (fun _ => true) true Tryd.f4.params.toList args.toList ds p := hA0
  rw [Tryd.params4] at hA hval
  obtain ⟨v0, vs0, d0, ds0, p0, q0, hargs, rfl, rfl, k0, r0⟩ := trodAll_cons hA
  obtain ⟨rfl, rfl, rfl⟩ := trodAll_nil r0
  obtain rfl : args = #[v0] := by cases args; simp_all
  obtain ⟨rfl, rfl⟩ := trodVars_none hV
  have ok0 := hval 0 9 v0 rfl rfl
  have lt0 : ∀ x ∈ p0, x.block < W.heap.size := by obtain ⟨m, hm⟩ := k0; exact DataW.trod_lt m _ _ _ hm
  have C : Calls Tryd.prog 4 #[v0] W fun e w' => e = .returned (.bool true) ∧ Below W.heap.size W w' := by
    clear hA0 hval0 hval hW' hcnd hV hfz hnd
    obtain ⟨s, rfl, rfl, rfl, hs⟩ := open_string Tryd.underlying9 ok0 k0
    rw [str_eta s]
    exact lawFinds _ W hL
  refine C.mono fun e W' ⟨he, bel⟩ => ?_
  subst he
  exact ⟨_, rfl, _, _, _, [], _, [], hW', trodAll_mk1 (shut_bool Tryd.underlying4 _), (trodAll_cons_mk (Below.trod laidOut (by kernel_rfl) (of_decide_eq_true (by kernel_rfl)) k0 bel lt0) trodAll_mk0), rfl, bel.frame _, fun h => by cases h⟩
theorem bare : Rows.ErrsFindsSaid :=
  OpenClaim.holds_of_wide 4 Tryd.f4 rfl rfl rfl rfl rfl rfl rfl ⟨rfl, rfl, rfl, rfl, rfl⟩ rfl rfl rfl rfl rfl (by kernel_rfl) Tryd.func4 (by kernel_rfl)
    (of_decide_eq_true (by kernel_rfl)) (by unfold Func.isWrapper; first | (rw [if_pos (by decide +kernel)]; kernel_rfl) | (rw [if_neg (by decide +kernel)]; exact ⟨rfl, rfl⟩))
    (fun os started H enc _ => lifted os started H enc)
theorem proved : Rows.ErrsFindsCardSaid :=
  Claim7.holds_tied_plain_at .later [] Rows.errsFindsCard.laidKinds true Rows.errsFindsCard.stood.harness false
    bare (fun _ h => by cases h) (by kernel_rfl) (fun _ h => by cases h) errsFinds_row_tie rfl ⟨rfl, rfl⟩ (by kernel_rfl) rfl
    (fun f fn hf hfn => by
      obtain rfl : f = 4 := Option.some.inj ((show Tryd.prog.funcNamed "drayman/draymanlaw02.ErrsFinds" = some 4 by kernel_rfl).symm.trans hf) |>.symm
      obtain rfl : fn = Tryd.f4 := (Option.some.inj (Tryd.func4.symm.trans hfn)).symm
      exact ⟨by kernel_rfl, fun j t ht => by
        rw [Tryd.params4] at ht
        have hm : t ∈ [9] := by simpa using Array.mem_of_getElem? ht
        have hall : ([9].all fun u => !Tryd.prog.wantsStandIn u) = true := by kernel_rfl
        exact (show Tryd.prog.wantsStandIn t = false by simpa using List.all_eq_true.1 hall t hm)⟩)
    (by kernel_rfl)
#print axioms proved
end LErrsFinds

end Go.Proofs.YtkebkfhiihblcaaDoor
