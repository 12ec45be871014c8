import Derived.Test.YtboceckeebhfoaaDoorQMByts17
set_option linter.unusedVariables false
set_option linter.unusedSimpArgs false
/- For whatever few and short words: the command, or what is told, is the document's. -/
set_option linter.unusedVariables false
set_option linter.unusedSimpArgs false
namespace Go.Proofs.YtboceckeebhfoaaDoor
open Go.ChangeShapes Go.WideShapes Go.ChangeAt Go.RowKit
set_option linter.unusedVariables false

set_option maxHeartbeats 2000000 in
theorem lawReads17 (l : List (List UInt8)) (v : Value) (w : World) (hv : StrsC w v l) (hL : Laid17 w) :
    Calls Tryd.prog 3 #[v] w fun e w' => e = .returned (.bool true) ∧ Below w.heap.size w w' := by
  have HL := Lib.hid hL
  clear hL
  obtain ⟨a, ca, rfl⟩ := strsC_slice hv
  cases hf : fewB l
  · go_enter Tryd.func3, Tryd.ntmps3; go_wp2_with fail; refine (awake17 _ HL.out).mono ?_; rintro e w1 ⟨rfl, b1⟩; go_wp2_with fail; refine (Few_any l _ _ (hv.1.below b1)).mono ?_; rintro e w2 ⟨rfl, rfl⟩; rw [hf]; go_wp2_with fail; refine (awake17 _ (HL.out.next b1)).mono ?_; rintro e w2 ⟨rfl, b2⟩; go_wp2; go_ret; exact ⟨rfl, b1.trans (b2.mono b1.size)⟩
  · obtain ⟨h40, h300⟩ := fewB_small hf
    have hR1 := fun W (hW : StrsC W _ l) (hLW : Laid17 W) => Read17_any l (.slice a l.length ca) W hW (by omega) (fun y hy => by have := h300 y hy; omega) hLW
    have hR2 := fun W (hW : StrsC W _ l) => refRead_any l (.slice a l.length ca) W hW (by omega) (fun y hy => by have := h300 y hy; omega)
    generalize readA l = R at *
    obtain ⟨C, s⟩ := R
    dsimp only at hR1 hR2
    clear h300
    go_enter Tryd.func3, Tryd.ntmps3
    go_wp2_with fail; refine (awake17 _ HL.out).mono ?_; rintro e w1 ⟨rfl, b1⟩
    go_wp2_with fail; refine (Few_any l _ _ (hv.1.below b1)).mono ?_; rintro e w2 ⟨rfl, rfl⟩
    rw [hf]
    clear hf
    go_wp2_with fail
    refine (hR1 _ (hv.below b1) (HL.out.next b1)).mono ?_
    rintro e w2 ⟨v2, rfl, o2, b2⟩
    have s2 := own_strs o2
    obtain ⟨a2, c2, rfl⟩ := strs_slice17 s2
    have b12 := b1.trans (b2.mono b1.size)
    have B2 := Blk.new w2 26 (cmdC C (.slice a2 C.ops.length c2))
    have g2 := (Below.refl w2.heap.size w2).alloc (Nat.le_refl _) (.cells (cmdC C (.slice a2 C.ops.length c2)) 26)
    have b3 := b12.trans (g2.mono b12.size)
    replace s2 := s2.below g2
    clear o2 b1 b2 b12 g2 hR1
    go_wp2_with fail
    refine (hR2 _ (hv.below b3)).mono ?_
    rintro e w4 ⟨v4, rfl, o4, b4⟩
    have s4 := own_strs o4
    obtain ⟨a4, c4, rfl⟩ := strs_slice17 s4
    have g4 := b4.trans (((Below.refl w4.heap.size w4).alloc (Nat.le_refl _) (.cells (cmdC C (.slice a4 C.ops.length c4)) 26)).mono b4.size)
    have b5 := b3.trans (g4.mono b3.size)
    have B5 := B2.next g4
    have B4 := Blk.new w4 26 (cmdC C (.slice a4 C.ops.length c4))
    replace s2 := s2.below g4
    replace s4 := s4.below ((Below.refl w4.heap.size w4).alloc (Nat.le_refl _) (.cells (cmdC C (.slice a4 C.ops.length c4)) 26))
    obtain ⟨⟨p0, p1, p2⟩, _⟩ := B5.tri
    obtain ⟨⟨q0, q1, q2⟩, _⟩ := B4.tri
    clear o4 b3 b4 g4 hR2 B2
    go_wp2_with fail
    refine (aw_same C _ _ _ s2 s4).mono ?_
    rintro e w6 ⟨rfl, b6⟩
    go_wp2
    go_ret
    exact ⟨ret_bool (by simp), b5.trans (b6.mono b5.size)⟩
namespace LArgsReads
set_option maxRecDepth 100000 in
theorem lifted (os : Os) (started : os.Started) (H : Type) (enc : TypeId × Value → H) :
    ReturnsInHanded {} Tryd.checked os 3 .any (fun w args => (Rows.argsReadsSpec.pre enc Tryd.prog Tryd.f3 [] false w args ∧ laidMetH Tryd.prog Rows.argsReadsRow.laid w) ∧ sizedMet enc Tryd.prog Tryd.f3 (OpenSpec.ofChange Rows.argsReadsSpec) false w args) (Rows.argsReadsSpec.post enc Tryd.prog Tryd.f3 false true false false) := by
  refine returnsInHanded_of_change_and (C := Tryd.checked) (X := fun w _ => laidMetH Tryd.prog Rows.argsReadsRow.laid w) (fun _ _ _ hh h => h.of_heap hh) (by kernel_rfl) started (by kernel_rfl) Tryd.func3
    (ChangeSpec.witness_shaped (enc := enc) (C := Tryd.checked) (os := os) (X := fun w _ => laidMetH Tryd.prog Rows.argsReadsRow.laid w) false (World.laidAll Tryd.prog os Rows.argsReadsRow.laid) #[.slice none 0 0] 8 (World.laidAll_os _ _ _)
      (World.shaped_of_ZipB (by kernel_rfl) (by kernel_rfl)) (by kernel_rfl) (by kernel_rfl) (by kernel_rfl)
      (by rw [MakeChecks.laidMetH_plain _ _ _ (by kernel_rfl)]; exact laidMet_laidAll _ (by kernel_rfl) (by kernel_rfl))) ?_
  intro W base args ds gs before hval0 hW hcnd _ hLaid _
  have hL := of_laid hLaid
  clear hLaid
  have hval : ∀ (j : Nat) t v, Tryd.f3.params[j]? = some t → args[j]? = some v → Value.okWide Tryd.prog W .any base t v := hval0
  have hW' := hW
  obtain ⟨p, q, hA0, hV, rfl, hfz, hnd⟩ := hW
  have hA : DataW.TrodAll enc Tryd.prog W 0 (fun _ => true) true Tryd.f3.params.toList args.toList ds p := hA0
  rw [Tryd.params3] at hA hval
  obtain ⟨v0, vs0, d0, ds0, p0, q0, hargs, rfl, rfl, k0, r0⟩ := trodAll_cons hA
  obtain ⟨rfl, rfl, rfl⟩ := trodAll_nil r0
  obtain rfl : args = #[v0] := by cases args; simp_all
  obtain ⟨rfl, rfl⟩ := trodVars_none hV
  have ok0 := hval 0 22 v0 rfl rfl
  have lt0 : ∀ x ∈ p0, x.block < W.heap.size := by obtain ⟨m, hm⟩ := k0; exact DataW.trod_lt m _ _ _ hm
  have C : Calls Tryd.prog 3 #[v0] W fun e w' => e = .returned (.bool true) ∧ Below W.heap.size W w' := by
    clear hA0 hval0 hval hW' hcnd hV hfz hnd
    obtain ⟨l, hl⟩ := strsC_of_trod ok0 k0
    exact lawReads17 l _ W hl hL
  refine C.mono fun e W' ⟨he, bel⟩ => ?_
  subst he
  exact ⟨_, rfl, _, _, _, [], _, [], hW', trodAll_mk1 (shut_bool Tryd.underlying4 _), (trodAll_cons_mk (Below.trod laidOut (by kernel_rfl) (of_decide_eq_true (by kernel_rfl)) k0 bel lt0) trodAll_mk0), rfl, bel.frame _, fun h => by cases h⟩
theorem bare : Rows.ArgsReadsSaid :=
  OpenClaim.holds_of_wide 3 Tryd.f3 rfl rfl rfl rfl rfl rfl rfl ⟨rfl, rfl, rfl, rfl, rfl⟩ rfl rfl rfl rfl rfl (by kernel_rfl) Tryd.func3 (by kernel_rfl)
    (of_decide_eq_true (by kernel_rfl)) (by unfold Func.isWrapper; first | (rw [if_pos (by decide +kernel)]; kernel_rfl) | (rw [if_neg (by decide +kernel)]; exact ⟨rfl, rfl⟩))
    (fun os started H enc _ => lifted os started H enc)
theorem proved : Rows.ArgsReadsCardSaid :=
  Claim7.holds_tied_plain_at .later [] Rows.argsReadsCard.laidKinds true Rows.argsReadsCard.stood.harness false
    bare (fun _ h => by cases h) (by kernel_rfl) (fun _ h => by cases h) argsReads_row_tie rfl ⟨rfl, rfl⟩ (by kernel_rfl) rfl
    (fun f fn hf hfn => by
      obtain rfl : f = 3 := Option.some.inj ((show Tryd.prog.funcNamed "drayman/draymanlaw17.ArgsReads" = some 3 by kernel_rfl).symm.trans hf) |>.symm
      obtain rfl : fn = Tryd.f3 := (Option.some.inj (Tryd.func3.symm.trans hfn)).symm
      exact ⟨by kernel_rfl, fun j t ht => by
        rw [Tryd.params3] at ht
        have hm : t ∈ [22] := by simpa using Array.mem_of_getElem? ht
        have hall : ([22].all fun u => !Tryd.prog.wantsStandIn u) = true := by kernel_rfl
        exact (show Tryd.prog.wantsStandIn t = false by simpa using List.all_eq_true.1 hall t hm)⟩)
    (by kernel_rfl)
#print axioms proved
end LArgsReads
end Go.Proofs.YtboceckeebhfoaaDoor
