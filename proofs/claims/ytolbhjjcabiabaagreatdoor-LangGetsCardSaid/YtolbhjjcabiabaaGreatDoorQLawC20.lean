import Derived.Test.YtolbhjjcabiabaaGreatDoorQMLawBase20
import Derived.Laws.StructEq
set_option linter.unusedVariables false
set_option linter.unusedSimpArgs false
/- For whatever text of at most 5,000 bytes: the plan, or the place of the first line that may not stand there, is the document's answer. -/
set_option linter.unusedVariables false
set_option linter.unusedSimpArgs false
namespace Go.Proofs.YtolbhjjcabiabaaGreatDoor
open Go.ChangeShapes Go.WideShapes Go.ChangeAt Go.RowKit
open Go.ChangeMaps (open_string shut_string)
set_option linter.unusedVariables false

set_option maxHeartbeats 4000000 in
theorem lawGets20 (s : List UInt8) (w : World) (hL : Laid20 w) (hs : s.length ≤ maxLen) :
    Calls Tryz.prog 5 #[.string ⟨s.toArray⟩] w fun e w' => e = .returned (.bool true) ∧ Below w.heap.size w w' := by
  unfold maxLen at hs
  have HL := Lib.hid hL
  clear hL
  by_cases h5 : 5000 < s.length
  · have h5i : (5000 : Int) < (s.length : Int) := by omega
    go_enter Tryz.func5, Tryz.ntmps5
    go_wp2_with fail; refine (awake20 _ HL.out).mono ?_; rintro e w1 ⟨rfl, b1⟩
    go_wp2_with fail; refine (awake20 _ (HL.out.next b1)).mono ?_; rintro e w2 ⟨rfl, b2⟩
    go_wp2
    go_ret
    exact ⟨rfl, b1.trans (b2.mono b1.size)⟩
  have h5i : ¬ (5000 : Int) < (s.length : Int) := by omega
  have hP := fun W (hLW : Laid20 W) => Get20_short (N := 5000) s W hLW (by omega) (by decide) (short_of_len (by omega))
  have hR := fun W => refGet_any s W (by omega)
  generalize getO s = R at *
  obtain ⟨l, p, z⟩ := R
  dsimp only at hP hR
  go_enter Tryz.func5, Tryz.ntmps5
  go_wp2_with fail; refine (awake20 _ HL.out).mono ?_; rintro e w1 ⟨rfl, b1⟩
  go_wp2_with fail
  refine (hP _ (HL.out.next b1)).mono ?_
  rintro e w2 ⟨v2, rfl, o2, b2⟩
  obtain ⟨a2, c2, rfl⟩ := ops_slice o2
  have B2 := Blk.new w2 38 #[.int .i64 p, .int .i64 z]
  have g2 := (Below.refl w2.heap.size w2).alloc (Nat.le_refl _) (.cells #[.int .i64 p, .int .i64 z] 38)
  replace o2 := o2.below g2
  replace b2 := b1.trans ((b2.trans (g2.mono b2.size)).mono b1.size)
  clear b1 g2 hP
  go_upto_region 4 with fail
  generalize hw3 : w2.alloc (.cells #[.int .i64 p, .int .i64 z] 38) = w3 at *
  go_wp2_with fail
  refine (hR _).mono ?_
  rintro e w4 ⟨v4, rfl, o4, b4⟩
  obtain ⟨a4, c4, rfl⟩ := ops_slice o4
  clear hw3 hR
  have B4 := Blk.new w4 38 #[.int .i64 p, .int .i64 z]
  have g4 := (Below.refl w4.heap.size w4).alloc (Nat.le_refl _) (.cells #[.int .i64 p, .int .i64 z] 38)
  have b5 := b4.trans (g4.mono b4.size)
  replace o4 := o4.below g4
  replace o2 := o2.below b5
  replace B2 := B2.next b5
  replace b2 := b2.trans (b5.mono b2.size)
  clear b4 b5 g4
  go_upto_region 5 with fail
  generalize hw5 : w4.alloc (.cells #[.int .i64 p, .int .i64 z] 38) = w5 at *
  have hS := refSameO_any l l _ _ _ o2 o4
  rw [show sameO l l = true from decide_eq_true rfl] at hS
  go_wp2_with fail
  refine hS.mono ?_
  rintro e w6 ⟨rfl, b6⟩
  clear hw5 hS
  replace B2 := B2.next b6
  replace B4 := B4.next b6
  obtain ⟨p0, p1⟩ := B2.pair
  obtain ⟨q0, q1⟩ := B4.pair
  go_wp2
  go_ret
  exact ⟨ret_bool (by simp), b2.trans (b6.mono b2.size)⟩
namespace LLangGets
set_option maxRecDepth 100000 in
theorem lifted (os : Os) (started : os.Started) (H : Type) (enc : TypeId × Value → H) :
    ReturnsInHanded {} Tryz.checked os 5 .any (fun w args => (Rows.langGetsSpec.pre enc Tryz.prog Tryz.f5 [] false w args ∧ laidMetH Tryz.prog Rows.langGetsRow.laid w) ∧ sizedMet enc Tryz.prog Tryz.f5 (OpenSpec.ofChange Rows.langGetsSpec) false w args) (Rows.langGetsSpec.post enc Tryz.prog Tryz.f5 false true false false) := by
  refine returnsInHanded_of_change_and (C := Tryz.checked) (X := fun w _ => laidMetH Tryz.prog Rows.langGetsRow.laid w) (fun _ _ _ hh h => h.of_heap hh) (by kernel_rfl) started (by kernel_rfl) Tryz.func5
    (ChangeSpec.witness_shaped (enc := enc) (C := Tryz.checked) (os := os) (X := fun w _ => laidMetH Tryz.prog Rows.langGetsRow.laid w) false (World.laidAll Tryz.prog os Rows.langGetsRow.laid) #[.string ByteArray.empty] 8 (World.laidAll_os _ _ _)
      (World.shaped_of_ZipB (by kernel_rfl) (by kernel_rfl)) (by kernel_rfl) (by kernel_rfl) (by kernel_rfl)
      (by rw [MakeChecks.laidMetH_plain _ _ _ (by kernel_rfl)]; exact laidMet_laidAll _ (by kernel_rfl) (by kernel_rfl))) ?_
  intro W base args ds gs before hval0 hW hcnd _ hLaid _
  have hL := of_laid hLaid
  clear hLaid
  have hval : ∀ (j : Nat) t v, Tryz.f5.params[j]? = some t → args[j]? = some v → Value.okWide Tryz.prog W .any base t v := hval0
  have hW' := hW
  obtain ⟨p, q, hA0, hV, rfl, hfz, hnd⟩ := hW
  have hA : DataW.TrodAll enc Tryz.prog W 0 (fun _ => true) true Tryz.f5.params.toList args.toList ds p := hA0
  rw [Tryz.params5] at hA hval
  obtain ⟨v0, vs0, d0, ds0, p0, q0, hargs, rfl, rfl, k0, r0⟩ := trodAll_cons hA
  obtain ⟨rfl, rfl, rfl⟩ := trodAll_nil r0
  obtain rfl : args = #[v0] := by cases args; simp_all
  obtain ⟨rfl, rfl⟩ := trodVars_none hV
  have ok0 := hval 0 9 v0 rfl rfl
  have lt0 : ∀ x ∈ p0, x.block < W.heap.size := by obtain ⟨m, hm⟩ := k0; exact DataW.trod_lt m _ _ _ hm
  have C : Calls Tryz.prog 5 #[v0] W fun e w' => e = .returned (.bool true) ∧ Below W.heap.size W w' := by
    clear hA0 hval0 hval hW' hcnd hV hfz hnd
    obtain ⟨s, rfl, rfl, rfl, hs⟩ := open_string Tryz.underlying9 ok0 k0
    exact lawGets20 _ W hL (str_len hs)
  refine C.mono fun e W' ⟨he, bel⟩ => ?_
  subst he
  exact ⟨_, rfl, _, _, _, [], _, [], hW', trodAll_mk1 (shut_bool Tryz.underlying4 _), (trodAll_cons_mk (Below.trod laidOut (by kernel_rfl) (of_decide_eq_true (by kernel_rfl)) k0 bel lt0) trodAll_mk0), rfl, bel.frame _, fun h => by cases h⟩
theorem bare : Rows.LangGetsSaid :=
  OpenClaim.holds_of_wide 5 Tryz.f5 rfl rfl rfl rfl rfl rfl rfl ⟨rfl, rfl, rfl, rfl, rfl⟩ rfl rfl rfl rfl rfl (by kernel_rfl) Tryz.func5 (by kernel_rfl)
    (of_decide_eq_true (by kernel_rfl)) (by unfold Func.isWrapper; first | (rw [if_pos (by decide +kernel)]; kernel_rfl) | (rw [if_neg (by decide +kernel)]; exact ⟨rfl, rfl⟩))
    (fun os started H enc _ => lifted os started H enc)
theorem proved : Rows.LangGetsCardSaid :=
  Claim7.holds_tied_plain_at .later [] Rows.langGetsCard.laidKinds true Rows.langGetsCard.stood.harness Rows.langGetsCard.stood.looks
    bare (fun _ h => by cases h) (by kernel_rfl) (fun _ h => by cases h) langGets_row_tie rfl ⟨rfl, rfl⟩ (by kernel_rfl) rfl
    (fun f fn hf hfn => by
      obtain rfl : f = 5 := Option.some.inj ((show Tryz.prog.funcNamed "drayman/draymanlaw20.LangGets" = some 5 by kernel_rfl).symm.trans hf) |>.symm
      obtain rfl : fn = Tryz.f5 := (Option.some.inj (Tryz.func5.symm.trans hfn)).symm
      exact ⟨by kernel_rfl, fun j t ht => by
        rw [Tryz.params5] at ht
        have hm : t ∈ [9] := by simpa using Array.mem_of_getElem? ht
        have hall : ([9].all fun u => !Tryz.prog.wantsStandIn u) = true := by kernel_rfl
        exact (show Tryz.prog.wantsStandIn t = false by simpa using List.all_eq_true.1 hall t hm)⟩)
    (by kernel_rfl)
#print axioms proved
end LLangGets
end Go.Proofs.YtolbhjjcabiabaaGreatDoor
