/- For every two numbers: an error is found by its message, a number that is none by none; unlike errors have unlike messages. -/
import Derived.Test.YtkebkfhiihblcaaDoorLawBase02
namespace Go.Proofs.YtkebkfhiihblcaaDoor
open Go.ChangeShapes Go.WideShapes Go.ChangeAt Go.RowKit
open Go.ChangeMaps (open_string shut_string)
set_option linter.unusedVariables false

theorem msgOf_isEmpty (e : Int) : (msgOf e == []) = false := by rw [beq_eq_false_iff_ne]; exact msgOf_ne e

theorem lawApart (e f : Int) (w : World) (hL : Laid w) :
    Calls Tryd.prog 5 #[.int .i64 e, .int .i64 f] w fun e w' => e = .returned (.bool true) ∧ Below w.heap.size w w' := by
  have HL := Lib.hid hL
  clear hL
  by_cases he : 0 ≤ e ∧ e ≤ 13
  · obtain ⟨k, rfl⟩ : ∃ k : Nat, e = k := ⟨e.toNat, by omega⟩
    have hk : k < 14 := by omega
    have hk1 : (k : Int) ≥ 0 := by omega
    have hk2 : (k : Int) ≤ 13 := by omega
    have hne := msgOf_isEmpty (k : Int)
    have hm := msgOf_nat k hk
    rw [hm] at hne
    have hfm := Lib.hid (findM_msg k hk)
    have HM := Lib.hid hm
    clear he hm
    by_cases hf : 0 ≤ f ∧ f ≤ 13
    · obtain ⟨j, rfl⟩ : ∃ j : Nat, f = j := ⟨f.toNat, by omega⟩
      have hj : j < 14 := by omega
      have hj1 : ¬ (j : Int) < 0 := by omega
      have hj2 : ¬ (13 : Int) < (j : Int) := by omega
      have hmj := Lib.hid (msgOf_nat j hj)
      have hap : (msgAt k == msgAt j) = ((k : Int) == (j : Int)) := by
        rw [Bool.eq_iff_iff, beq_iff_eq, beq_iff_eq]
        constructor
        · intro h; have := msgs_apart k j hk hj h; omega
        · intro h; have : k = j := by omega
          rw [this]
      have HAP := Lib.hid hap
      clear hap hf
      go_enter Tryd.func5, Tryd.ntmps5
      go_wp2_with fail; refine (awake_any _ HL.out).mono ?_; rintro e w1 ⟨rfl, b1⟩
      have HL1 := Lib.hid (HL.out.next b1)
      go_wp2_with fail
      refine (aw_message (k : Int) (msgAt k) _ HL1.out HM.out).mono ?_
      rintro e w2 ⟨rfl, b2⟩
      have HL2 := Lib.hid (HL1.out.next b2)
      go_wp2_with fail
      refine (aw_find (msgAt k) k _ HL2.out hfm.out).mono ?_
      rintro e w' ⟨rfl, rfl⟩
      go_wp2_with fail
      refine (aw_message (j : Int) (msgAt j) _ HL2.out hmj.out).mono ?_
      rintro e w3 ⟨rfl, b3⟩
      go_wp2
      go_ret
      exact ⟨ret_bool (by simp [HAP.out]), (b1.trans (b2.mono b1.size)).trans (b3.mono (b1.trans (b2.mono b1.size)).size)⟩
    · by_cases hf0 : f < 0
      · clear hf
        go_enter Tryd.func5, Tryd.ntmps5
        go_wp2_with fail; refine (awake_any _ HL.out).mono ?_; rintro e w1 ⟨rfl, b1⟩
        have HL1 := Lib.hid (HL.out.next b1)
        go_wp2_with fail
        refine (aw_message (k : Int) (msgAt k) _ HL1.out HM.out).mono ?_
        rintro e w2 ⟨rfl, b2⟩
        have HL2 := Lib.hid (HL1.out.next b2)
        go_wp2_with fail
        refine (aw_find (msgAt k) k _ HL2.out hfm.out).mono ?_
        rintro e w' ⟨rfl, rfl⟩
        go_wp2
        go_ret
        exact ⟨rfl, b1.trans (b2.mono b1.size)⟩
      · have hf1 : (13 : Int) < f := by omega
        clear hf
        go_enter Tryd.func5, Tryd.ntmps5
        go_wp2_with fail; refine (awake_any _ HL.out).mono ?_; rintro e w1 ⟨rfl, b1⟩
        have HL1 := Lib.hid (HL.out.next b1)
        go_wp2_with fail
        refine (aw_message (k : Int) (msgAt k) _ HL1.out HM.out).mono ?_
        rintro e w2 ⟨rfl, b2⟩
        have HL2 := Lib.hid (HL1.out.next b2)
        go_wp2_with fail
        refine (aw_find (msgAt k) k _ HL2.out hfm.out).mono ?_
        rintro e w' ⟨rfl, rfl⟩
        go_wp2
        go_ret
        exact ⟨rfl, b1.trans (b2.mono b1.size)⟩
  · have HM := Lib.hid (msgOf_no (e := e) (by omega))
    have hne : (unknownM == []) = false := by decide
    by_cases he0 : e < 0
    · have hn : ¬ e ≥ 0 := by omega
      clear he
      go_enter Tryd.func5, Tryd.ntmps5
      go_wp2_with fail; refine (awake_any _ HL.out).mono ?_; rintro e w1 ⟨rfl, b1⟩
      have HL1 := Lib.hid (HL.out.next b1)
      go_wp2_with fail
      refine (aw_message e unknownM _ HL1.out HM.out).mono ?_
      rintro e w2 ⟨rfl, b2⟩
      have HL2 := Lib.hid (HL1.out.next b2)
      go_wp2_with fail
      refine (aw_find_no unknownM _ HL2.out findM_unknown).mono ?_
      rintro e w' ⟨rfl, rfl⟩
      go_wp2
      go_ret
      exact ⟨rfl, b1.trans (b2.mono b1.size)⟩
    · have hn : e ≥ 0 := by omega
      have hn2 : ¬ e ≤ 13 := by omega
      clear he
      go_enter Tryd.func5, Tryd.ntmps5
      go_wp2_with fail; refine (awake_any _ HL.out).mono ?_; rintro e w1 ⟨rfl, b1⟩
      have HL1 := Lib.hid (HL.out.next b1)
      go_wp2_with fail
      refine (aw_message e unknownM _ HL1.out HM.out).mono ?_
      rintro e w2 ⟨rfl, b2⟩
      have HL2 := Lib.hid (HL1.out.next b2)
      go_wp2_with fail
      refine (aw_find_no unknownM _ HL2.out findM_unknown).mono ?_
      rintro e w' ⟨rfl, rfl⟩
      go_wp2
      go_ret
      exact ⟨rfl, b1.trans (b2.mono b1.size)⟩

namespace LErrsApart
set_option maxRecDepth 100000 in
theorem lifted (os : Os) (started : os.Started) (H : Type) (enc : TypeId × Value → H) :
    ReturnsInHanded {} Tryd.checked os 5 .any (fun w args => (Rows.errsApartSpec.pre enc Tryd.prog Tryd.f5 [] false w args ∧ laidMetH Tryd.prog Rows.errsApartRow.laid w) ∧ sizedMet enc Tryd.prog Tryd.f5 (OpenSpec.ofChange Rows.errsApartSpec) false w args) (Rows.errsApartSpec.post enc Tryd.prog Tryd.f5 false true false false) := by
  refine returnsInHanded_of_change_and (C := Tryd.checked) (X := fun w _ => laidMetH Tryd.prog Rows.errsApartRow.laid w) (fun _ _ _ hh h => h.of_heap hh) (by kernel_rfl) started (by kernel_rfl) Tryd.func5
    (ChangeSpec.witness_shaped (enc := enc) (C := Tryd.checked) (os := os) (X := fun w _ => laidMetH Tryd.prog Rows.errsApartRow.laid w) false (World.laidAll Tryd.prog os Rows.errsApartRow.laid) #[.int .i64 0, .int .i64 0] 8 (World.laidAll_os _ _ _)
      (World.shaped_of_ZipB (by kernel_rfl) (by kernel_rfl)) (by kernel_rfl) (by kernel_rfl) (by kernel_rfl)
      (by rw [MakeChecks.laidMetH_plain _ _ _ (by kernel_rfl)]; exact laidMet_laidAll _ (by kernel_rfl) (by kernel_rfl))) ?_
  intro W base args ds gs before hval0 hW hcnd _ hLaid _
  have hL : Laid W := of_laid hLaid
  clear hLaid
  have hval : ∀ (j : Nat) t v, Tryd.f5.params[j]? = some t → args[j]? = some v → Value.okWide Tryd.prog W .any base t v := hval0
  have hW' := hW
  obtain ⟨p, q, hA0, hV, rfl, hfz, hnd⟩ := hW
  have hA : DataW.TrodAll enc Tryd.prog W 0 (fun _ => true) true Tryd.f5.params.toList args.toList ds p := hA0
  rw [Tryd.params5] at hA hval
  obtain ⟨v0, vs0, d0, ds0, p0, q0, hargs, rfl, rfl, k0, r0⟩ := trodAll_cons hA
  obtain ⟨v1, vs1, d1, ds1, p1, q1, rfl, rfl, rfl, k1, r1⟩ := trodAll_cons r0
  obtain ⟨rfl, rfl, rfl⟩ := trodAll_nil r1
  obtain rfl : args = #[v0, v1] := by cases args; simp_all
  obtain ⟨rfl, rfl⟩ := trodVars_none hV
  have ok0 := hval 0 3 v0 rfl rfl
  have ok1 := hval 1 3 v1 rfl rfl
  have lt0 : ∀ x ∈ p0, x.block < W.heap.size := by obtain ⟨m, hm⟩ := k0; exact DataW.trod_lt m _ _ _ hm
  have lt1 : ∀ x ∈ p1, x.block < W.heap.size := by obtain ⟨m, hm⟩ := k1; exact DataW.trod_lt m _ _ _ hm
  have C : Calls Tryd.prog 5 #[v0, v1] W fun e w' => e = .returned (.bool true) ∧ Below W.heap.size W w' := by
    clear hA0 hval0 hval hW' hcnd hV hfz hnd
    obtain ⟨n, rfl, rfl, rfl, hn⟩ := open_int Tryd.underlying3 ok0 k0
    obtain ⟨m, rfl, rfl, rfl, hm⟩ := open_int Tryd.underlying3 ok1 k1
    exact lawApart _ _ W hL
  refine C.mono fun e W' ⟨he, bel⟩ => ?_
  subst he
  exact ⟨_, rfl, _, _, _, [], _, [], hW', trodAll_mk1 (shut_bool Tryd.underlying4 _), (trodAll_cons_mk (Below.trod laidOut (by kernel_rfl) (of_decide_eq_true (by kernel_rfl)) k0 bel lt0) (trodAll_cons_mk (Below.trod laidOut (by kernel_rfl) (of_decide_eq_true (by kernel_rfl)) k1 bel lt1) trodAll_mk0)), rfl, bel.frame _, fun h => by cases h⟩
theorem bare : Rows.ErrsApartSaid :=
  OpenClaim.holds_of_wide 5 Tryd.f5 rfl rfl rfl rfl rfl rfl rfl ⟨rfl, rfl, rfl, rfl, rfl⟩ rfl rfl rfl rfl rfl (by kernel_rfl) Tryd.func5 (by kernel_rfl)
    (of_decide_eq_true (by kernel_rfl)) (by unfold Func.isWrapper; first | (rw [if_pos (by decide +kernel)]; kernel_rfl) | (rw [if_neg (by decide +kernel)]; exact ⟨rfl, rfl⟩))
    (fun os started H enc _ => lifted os started H enc)
theorem proved : Rows.ErrsApartCardSaid :=
  Claim7.holds_tied_plain_at .later [] Rows.errsApartCard.laidKinds true Rows.errsApartCard.stood.harness false
    bare (fun _ h => by cases h) (by kernel_rfl) (fun _ h => by cases h) errsApart_row_tie rfl ⟨rfl, rfl⟩ (by kernel_rfl) rfl
    (fun f fn hf hfn => by
      obtain rfl : f = 5 := Option.some.inj ((show Tryd.prog.funcNamed "drayman/draymanlaw02.ErrsApart" = some 5 by kernel_rfl).symm.trans hf) |>.symm
      obtain rfl : fn = Tryd.f5 := (Option.some.inj (Tryd.func5.symm.trans hfn)).symm
      exact ⟨by kernel_rfl, fun j t ht => by
        rw [Tryd.params5] at ht
        have hm : t ∈ [3, 3] := by simpa using Array.mem_of_getElem? ht
        have hall : ([3, 3].all fun u => !Tryd.prog.wantsStandIn u) = true := by kernel_rfl
        exact (show Tryd.prog.wantsStandIn t = false by simpa using List.all_eq_true.1 hall t hm)⟩)
    (by kernel_rfl)
#print axioms proved
end LErrsApart

end Go.Proofs.YtkebkfhiihblcaaDoor
