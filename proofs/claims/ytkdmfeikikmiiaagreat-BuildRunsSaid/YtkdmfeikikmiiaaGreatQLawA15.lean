/- For every limits and every few calls with short texts: what package build makes of them from the empty file system on is what the document makes of them, call by call; and so is its Tree (no condition). -/
import Derived.Test.YtkdmfeikikmiiaaGreatQMLawBase15
import Derived.Deep.LoopGhost
import Derived.BigQuiet
set_option linter.unusedVariables false
set_option linter.unusedSimpArgs false
namespace Go.Proofs.YtkdmfeikikmiiaaGreat
open Go.ChangeShapes Go.WideShapes Go.ChangeAt Go.RowKit
set_option linter.unusedVariables false
set_option maxHeartbeats 8000000 in
set_option maxRecDepth 100000 in
theorem lawRuns15 (i b : Int) (h1 : 0 ≤ i ∧ i ≤ 65535) (h2 : 0 ≤ b ∧ b ≤ 65535) (cs : List CallV) (vc : Value) (w : World) (hc : Cls w vc cs) :
    Calls Tryz.prog 3 #[.int .u16 i, .int .u16 b, vc] w fun e w' => e = .returned (.bool true) ∧ Below w.heap.size w w' := by
  cases hf : fewC cs
  · go_enter Tryz.func3, Tryz.ntmps3
    go_wp2_with fail; refine (awake15 _).mono ?_; rintro e w1 ⟨rfl, b1⟩
    go_wp2_with fail; refine (fewC_any cs _ _ (hc.below b1)).mono ?_; rintro e w2 ⟨rfl, rfl⟩
    rw [hf]
    go_wp2_with fail; refine (awake15 _).mono ?_; rintro e w3 ⟨rfl, b3⟩
    go_wp2
    go_ret
    exact ⟨rfl, b1.trans (b3.mono b1.size)⟩
  obtain ⟨hl, hsh⟩ := fewC_small hf
  have hw1 : IntKind.i64.wrap i = i := by rw [IntKind.wrap_i64]; omega
  have hw2 : IntKind.i64.wrap b = b := by rw [IntKind.wrap_i64]; omega
  have hw3 : IntKind.i64.wrap (1 + i) = 1 + i := by rw [IntKind.wrap_i64]; omega
  have hkit : Kit (1 + i) b 0 (2, [rootN]) := root_kit (by omega) (by omega) (by omega) (by omega)
  have HA := Lib.hid (fun v W hv hC => Run15_any (1 + i) b 2 [rootN] cs [47] v vc W hv hC (n := 0) hkit (by omega) (by decide) hsh)
  have HR := Lib.hid (fun v W hv hC => refRun_any (1 + i) b 2 [rootN] cs [47] v vc W hv hC (n := 0) hkit (by omega) (by decide) hsh)
  have HT := Lib.hid (fun W hC => Tree15_any (1 + i) b cs vc W hC (by omega) hsh (by omega))
  go_enter Tryz.func3, Tryz.ntmps3
  go_wp2_with fail; refine (awake15 _).mono ?_; rintro e w1 ⟨rfl, b1⟩
  replace hc := hc.below b1
  go_wp2_with fail; refine (fewC_any cs _ _ hc).mono ?_; rintro e w2 ⟨rfl, rfl⟩
  rw [hf]
  go_wp2_with fail
  refine (refNewT_any (1 + i) b _).mono ?_
  rintro e w2 ⟨v2, rfl, n2, b2⟩
  obtain ⟨a2, c2, rfl⟩ := nds_slice n2
  have s2 := alloc_below w2 (.cells (fsC (1 + i) b 2 (.slice a2 1 c2)) 28)
  have bF := Blk.new w2 28 (fsC (1 + i) b 2 (.slice a2 1 c2))
  have d2 := b2.trans (s2.mono b2.size)
  replace n2 := n2.below s2
  replace hc := hc.below d2
  have hB := b1.trans (d2.mono b1.size)
  clear b1 b2 s2 d2
  obtain ⟨⟨p0, p1, p2, p3⟩, _⟩ := bF.four
  go_wp2_with fail
  refine (HA.out _ _ n2 hc).mono ?_
  rintro e w3 ⟨y3, vo, ⟨x3, l3⟩, es, rfl, hM3, hO3, hR3, b3⟩
  have n3 := hM3.now n2 b3
  have hI3 := Its.own hO3
  obtain ⟨a3, c3, rfl⟩ := nds_slice n3
  obtain ⟨ao, co, rfl, ho1, ho2, _⟩ := id hI3
  have s3 := alloc_below w3 (.cells (fsC (1 + i) b x3 (.slice a3 l3.length c3)) 28)
  have bA := Blk.new w3 28 (fsC (1 + i) b x3 (.slice a3 l3.length c3))
  have d3 := b3.trans (s3.mono b3.size)
  replace n3 := n3.below s3
  replace hI3 := hI3.below s3
  replace n2 := n2.below d3
  replace hc := hc.below d3
  replace bF := bF.next d3
  replace hB := hB.trans (d3.mono hB.size)
  clear b3 s3 d3 hM3 hO3 p0 p1 p2 p3 HA
  obtain ⟨⟨p0, p1, p2, p3⟩, _⟩ := bF.four
  go_wp2_with fail
  refine (HR.out _ _ n2 hc).mono ?_
  rintro e w4 ⟨y4, vp, ⟨x4, l4⟩, fs, rfl, hM4, hO4, hR4, b4⟩
  obtain ⟨rfl, hx4, hk4⟩ := run_same hR3 hR4
  dsimp only at hx4 hk4
  subst hx4
  have n4 := hM4.now n2 b4
  have hI4 := Its.own hO4
  obtain ⟨a4, c4, rfl⟩ := nds_slice n4
  obtain ⟨aq, cq, rfl, hq1, hq2, _⟩ := id hI4
  have s4 := alloc_below w4 (.cells (fsC (1 + i) b x4 (.slice a4 l4.length c4)) 28)
  have bD := Blk.new w4 28 (fsC (1 + i) b x4 (.slice a4 l4.length c4))
  have d4 := b4.trans (s4.mono b4.size)
  replace n4 := n4.below s4
  replace hI4 := hI4.below s4
  replace n3 := n3.below d4
  replace hI3 := hI3.below d4
  replace bA := bA.next d4
  replace hc := hc.below d4
  replace hB := hB.trans (d4.mono hB.size)
  clear b4 s4 d4 hM4 hO4 p0 p1 p2 p3 HR n2 bF hR4
  go_wp2_with fail
  refine (HT.out _ hc).mono ?_
  rintro e w5 ⟨y5, ⟨x5, l5⟩, gs, rfl, n5, hR5, b5⟩
  obtain ⟨rfl, hx5, hk5⟩ := run_same hR3 hR5
  dsimp only at hx5 hk5 n5
  subst hx5
  obtain ⟨a5, c5, rfl⟩ := nds_slice n5
  have s5 := alloc_below w5 (.cells (fsC (1 + i) b x5 (.slice a5 l5.length c5)) 28)
  have bE := Blk.new w5 28 (fsC (1 + i) b x5 (.slice a5 l5.length c5))
  have d5 := b5.trans (s5.mono b5.size)
  replace n5 := n5.below s5
  replace n4 := n4.below d5
  replace hI4 := hI4.below d5
  replace n3 := n3.below d5
  replace hI3 := hI3.below d5
  replace bA := bA.next d5
  replace bD := bD.next d5
  replace hB := hB.trans (d5.mono hB.size)
  clear b5 s5 d5 HT hc hR5 hR3
  obtain ⟨⟨p0, p1, p2, p3⟩, _⟩ := bA.four
  obtain ⟨⟨q0, q1, q2, q3⟩, _⟩ := bD.four
  go_wp2_with fail
  refine (key_same (1 + i) b x5 hk4 _ _ _ n3 n4).mono ?_
  rintro e w6 ⟨rfl, b6⟩
  replace n5 := n5.below b6
  replace n4 := n4.below b6
  replace hI4 := hI4.below b6
  replace hI3 := hI3.below b6
  replace bD := bD.next b6
  replace bE := bE.next b6
  replace hB := hB.trans (b6.mono hB.size)
  clear b6 p0 p1 p2 p3 q0 q1 q2 q3 bA n3
  obtain ⟨⟨p0, p1, p2, p3⟩, _⟩ := bE.four
  obtain ⟨⟨q0, q1, q2, q3⟩, _⟩ := bD.four
  go_wp2_with fail
  refine (key_same (1 + i) b x5 (hk5.symm.trans hk4) _ _ _ n5 n4).mono ?_
  rintro e w7 ⟨rfl, b7⟩
  replace hI4 := hI4.below b7
  replace hI3 := hI3.below b7
  replace hB := hB.trans (b7.mono hB.size)
  clear b7 p0 p1 p2 p3 q0 q1 q2 q3 bD bE n4 n5
  obtain ⟨_, _, e3, _, _, HX3⟩ := hI3
  obtain ⟨_, _, e4, _, _, HX4⟩ := hI4
  simp only [Value.slice.injEq] at e3 e4
  obtain ⟨rfl, _, rfl⟩ := e3
  obtain ⟨rfl, _, rfl⟩ := e4
  have H3 := Lib.hid HX3
  have H4 := Lib.hid HX4
  clear HX3 HX4 hk4 hk5 hsh hkit
  unfold maxLen at ho2 hq2
  go_wp2
  go_loopw [14] (fun s wr => ∃ k : Nat, k ≤ gs.length ∧ s = .int .i64 k ∧ Below w7.heap.size w7 wr) (fun s _ => gs.length - (intOf s).toNat)
  case atStart => exact ⟨0, Nat.zero_le _, rfl, Below.refl _ _⟩
  case round =>
    obtain ⟨k, hk, rfl, hbw⟩ := hrel
    by_cases hlt : k < gs.length
    · obtain ⟨g3, rfl, hg3, hc3⟩ := H3.out (by omega)
      obtain ⟨g4, rfl, hg4, hc4⟩ := H4.out (by omega)
      have d3 := (hbw.cell (p := ⟨g3, k, none⟩) hg3).trans (hc3 k hlt)
      have d4 := (hbw.cell (p := ⟨g4, k, none⟩) hg4).trans (hc4 k hlt)
      clear hc3 hc4
      have k0 : (0 : Int) ≤ (k : Int) := by omega
      have k1 : (k : Int) < (gs.length : Int) := by omega
      generalize gs[k] = z at *
      have hz : (z != z) = false := by simp
      go_wp2
      go_quiet (fail)
      go_wp2
      go_roundw
      case rel => exact ⟨k + 1, by omega, by go_num, below_drewN hbw _⟩
      case measure => simp [intOf]; omega
    · go_wp2
      go_ret
      exact ⟨rfl, hB.trans (hbw.mono hB.size)⟩
namespace LBuildRuns
set_option maxRecDepth 100000 in
theorem lifted (os : Os) (started : os.Started) (H : Type) (enc : TypeId × Value → H) :
    ReturnsInHanded {} Tryz.checked os 3 .any (Rows.buildRunsSpec.pre6 enc Tryz.prog Tryz.f3 Rows.buildRunsRow.domain false) (Rows.buildRunsSpec.post enc Tryz.prog Tryz.f3 false true false false) := by
  refine returnsInHanded_of_change (C := Tryz.checked) (by kernel_rfl) started (by kernel_rfl) Tryz.func3
    (ChangeSpec.witness6 (enc := enc) (C := Tryz.checked) false ⟨#[], #[.int .u16 0, .int .u16 0, .slice none 0 0], []⟩ 8 (by kernel_rfl) (by kernel_rfl) (by kernel_rfl) (by kernel_rfl)) ?_
  intro W base args ds gs before hval0 hW hcnd _
  have hval : ∀ (j : Nat) t v, Tryz.f3.params[j]? = some t → args[j]? = some v → Value.okWide Tryz.prog W .any base t v := hval0
  have hW' := hW
  obtain ⟨p, q, hA0, hV, rfl, hfz, hnd⟩ := hW
  have hA : DataW.TrodAll enc Tryz.prog W 0 (fun _ => true) true Tryz.f3.params.toList args.toList ds p := hA0
  rw [Tryz.params3] at hA hval
  obtain ⟨v0, vs0, d0, ds0, p0, q0, hargs, rfl, rfl, k0, r0⟩ := trodAll_cons hA
  obtain ⟨v1, vs1, d1, ds1, p1, q1, rfl, rfl, rfl, k1, r1⟩ := trodAll_cons r0
  obtain ⟨v2, vs2, d2, ds2, p2, q2, rfl, rfl, rfl, k2, r2⟩ := trodAll_cons r1
  obtain ⟨rfl, rfl, rfl⟩ := trodAll_nil r2
  obtain rfl : args = #[v0, v1, v2] := by cases args; simp_all
  obtain ⟨rfl, rfl⟩ := trodVars_none hV
  have ok0 := hval 0 22 v0 rfl rfl
  have ok1 := hval 1 22 v1 rfl rfl
  have ok2 := hval 2 23 v2 rfl rfl
  have lt0 : ∀ x ∈ p0, x.block < W.heap.size := by obtain ⟨m, hm⟩ := k0; exact DataW.trod_lt m _ _ _ hm
  have lt1 : ∀ x ∈ p1, x.block < W.heap.size := by obtain ⟨m, hm⟩ := k1; exact DataW.trod_lt m _ _ _ hm
  have lt2 : ∀ x ∈ p2, x.block < W.heap.size := by obtain ⟨m, hm⟩ := k2; exact DataW.trod_lt m _ _ _ hm
  have C : Calls Tryz.prog 3 #[v0, v1, v2] W fun e w' => e = .returned (.bool true) ∧ Below W.heap.size W w' := by
    clear hA0 hval0 hval hW' hcnd hV hfz hnd
    obtain ⟨i, rfl, rfl, rfl, hi⟩ := open_int Tryz.underlying22 ok0 k0
    obtain ⟨b, rfl, rfl, rfl, hb⟩ := open_int Tryz.underlying22 ok1 k1
    obtain ⟨cs, hc⟩ := cls_of_trod k2 ⟨_, ok2⟩
    exact lawRuns15 i b (bounds_u16 hi) (bounds_u16 hb) cs _ W hc
  refine C.mono fun e W' ⟨he, bel⟩ => ?_
  subst he
  exact ⟨_, rfl, _, _, _, [], _, [], hW', trodAll_mk1 (shut_bool Tryz.underlying4 _), (trodAll_cons_mk (Below.trod laidOut (by kernel_rfl) (of_decide_eq_true (by kernel_rfl)) k0 bel lt0) (trodAll_cons_mk (Below.trod laidOut (by kernel_rfl) (of_decide_eq_true (by kernel_rfl)) k1 bel lt1) (trodAll_cons_mk (Below.trod laidOut (by kernel_rfl) (of_decide_eq_true (by kernel_rfl)) k2 bel lt2) trodAll_mk0))), rfl, bel.frame _, fun h => by cases h⟩
theorem proved : Rows.BuildRunsSaid :=
  OpenClaim.holds_of_wide 3 Tryz.f3 rfl rfl rfl rfl rfl rfl rfl ⟨rfl, rfl, rfl, rfl, rfl⟩ rfl rfl rfl rfl rfl (by kernel_rfl) Tryz.func3 (by kernel_rfl)
    (of_decide_eq_true (by kernel_rfl)) (by unfold Func.isWrapper; first | (rw [if_pos (by decide +kernel)]; kernel_rfl) | (rw [if_neg (by decide +kernel)]; exact ⟨rfl, rfl⟩))
    (fun os started H enc _ => lifted os started H enc)
#print axioms proved
end LBuildRuns
end Go.Proofs.YtkdmfeikikmiiaaGreat
