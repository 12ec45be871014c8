/- For every two numbers: package build makes of them, and of no calls, the empty file system with these limits, or tells that they may not be (no condition). -/
import Derived.Test.YtkdmfeikikmiiaaGreatVMLawBase15
set_option linter.unusedVariables false
set_option linter.unusedSimpArgs false
namespace Go.Proofs.YtkdmfeikikmiiaaGreat
open Go.ChangeShapes Go.WideShapes Go.ChangeAt Go.RowKit
set_option linter.unusedVariables false
theorem trees_ok (i b : Int) (w : World) (h1 : ¬ i < 1) (h2 : ¬ 1073741824 < i) (h3 : ¬ b < 0) (h4 : ¬ 1073741824 < b) :
    Calls Tryz.prog 12 #[.int .i64 i, .int .i64 b, .slice none 0 0] w fun e w' => ∃ y, e = .returned (.tuple #[.agg (fsC i b 2 y), .int .i64 0]) ∧ Nds w' y [rootN] ∧ Below w.heap.size w w' := by
  refine (Tree15_any i b [] _ w (Cls.nil_ w) (by simp) (fun c h => by cases h) (by omega)).mono ?_
  rintro e w' ⟨y, s, es, rfl, hN, hR, hB⟩
  obtain ⟨rfl, _⟩ := hR
  exact ⟨y, rfl, hN, hB⟩
theorem trees_bad (i b : Int) (w : World) (h : i < 1 ∨ 1073741824 < i ∨ b < 0 ∨ 1073741824 < b) :
    Calls Tryz.prog 12 #[.int .i64 i, .int .i64 b, .slice none 0 0] w fun e w' => e = .returned (.tuple #[.agg (fsC 0 0 0 (.slice none 0 0)), .int .i64 9]) ∧ Below w.heap.size w w' :=
  Tree15_bad i b [] _ w (Cls.nil_ w) (by omega)
set_option maxHeartbeats 4000000 in
theorem lawTrees15 (i b : Int) (w : World) :
    Calls Tryz.prog 4 #[.int .i64 i, .int .i64 b] w fun e w' => e = .returned (.bool true) ∧ Below w.heap.size w w' := by
  by_cases h1 : i < 1
  · (go_enter Tryz.func4, Tryz.ntmps4; go_wp2_with fail; refine (awake15 _).mono ?_; rintro e w1 ⟨rfl, b1⟩; go_wp2_with fail; refine (trees_bad i b _ (.inl h1)).mono ?_; rintro e w2 ⟨rfl, b2⟩; have hB := b1.trans (b2.mono b1.size); have hB2 := hB.trans ((alloc_below w2 (.cells #[.int .i64 0, .int .i64 0, .int .i64 0, .slice none 0 0] 28)).mono hB.size); go_wp2_with fail; refine (zero_same _).mono ?_; rintro e w3 ⟨rfl, b3⟩; go_wp2; go_ret; exact ⟨rfl, hB2.trans (b3.mono hB2.size)⟩)
  by_cases h2 : 1073741824 < i
  · (go_enter Tryz.func4, Tryz.ntmps4; go_wp2_with fail; refine (awake15 _).mono ?_; rintro e w1 ⟨rfl, b1⟩; go_wp2_with fail; refine (trees_bad i b _ (.inr (.inl h2))).mono ?_; rintro e w2 ⟨rfl, b2⟩; have hB := b1.trans (b2.mono b1.size); have hB2 := hB.trans ((alloc_below w2 (.cells #[.int .i64 0, .int .i64 0, .int .i64 0, .slice none 0 0] 28)).mono hB.size); go_wp2_with fail; refine (zero_same _).mono ?_; rintro e w3 ⟨rfl, b3⟩; go_wp2; go_ret; exact ⟨rfl, hB2.trans (b3.mono hB2.size)⟩)
  by_cases h3 : b < 0
  · (go_enter Tryz.func4, Tryz.ntmps4; go_wp2_with fail; refine (awake15 _).mono ?_; rintro e w1 ⟨rfl, b1⟩; go_wp2_with fail; refine (trees_bad i b _ (.inr (.inr (.inl h3)))).mono ?_; rintro e w2 ⟨rfl, b2⟩; have hB := b1.trans (b2.mono b1.size); have hB2 := hB.trans ((alloc_below w2 (.cells #[.int .i64 0, .int .i64 0, .int .i64 0, .slice none 0 0] 28)).mono hB.size); go_wp2_with fail; refine (zero_same _).mono ?_; rintro e w3 ⟨rfl, b3⟩; go_wp2; go_ret; exact ⟨rfl, hB2.trans (b3.mono hB2.size)⟩)
  by_cases h4 : 1073741824 < b
  · (go_enter Tryz.func4, Tryz.ntmps4; go_wp2_with fail; refine (awake15 _).mono ?_; rintro e w1 ⟨rfl, b1⟩; go_wp2_with fail; refine (trees_bad i b _ (.inr (.inr (.inr h4)))).mono ?_; rintro e w2 ⟨rfl, b2⟩; have hB := b1.trans (b2.mono b1.size); have hB2 := hB.trans ((alloc_below w2 (.cells #[.int .i64 0, .int .i64 0, .int .i64 0, .slice none 0 0] 28)).mono hB.size); go_wp2_with fail; refine (zero_same _).mono ?_; rintro e w3 ⟨rfl, b3⟩; go_wp2; go_ret; exact ⟨rfl, hB2.trans (b3.mono hB2.size)⟩)
  have HN := trees_ok i b
  go_enter Tryz.func4, Tryz.ntmps4
  go_wp2_with fail; refine (awake15 _).mono ?_; rintro e w1 ⟨rfl, b1⟩
  go_wp2_with fail; refine (HN _ h1 h2 h3 h4).mono ?_; rintro e w2 ⟨v2, rfl, n2, b2⟩
  obtain ⟨a2, c2, rfl⟩ := nds_slice n2
  have hB := b1.trans (b2.mono b1.size)
  have bF := Blk.new w2 28 (fsC i b 2 (.slice a2 1 c2))
  have hS := alloc_below w2 (.cells (fsC i b 2 (.slice a2 1 c2)) 28)
  have hB2 := hB.trans (hS.mono hB.size)
  have n3 := n2.below hS
  clear b1 b2 n2 hS HN
  obtain ⟨⟨p0, p1, p2, p3⟩, _⟩ := bF.four
  go_upto_region 6 with fail
  generalize hwa : w2.alloc (.cells (fsC i b 2 (.slice a2 1 c2)) 28) = wa at *
  have bG : Blk wa.drew w2.heap.size 28 (fsC i b 2 (.slice a2 1 c2)) := bF
  have n4 : Nds wa.drew (.slice a2 1 c2) [rootN] := n3
  have hB3 : Below w.heap.size w wa.drew := hB2.drew
  clear bF n3 hwa
  go_region_with (first
    | (go_at_call 9; refine (refNewT_any i b _).mono ?_; rintro e wz ⟨vn, rfl, nN, bz⟩; obtain ⟨an, cn, rfl⟩ := nds_slice nN; obtain ⟨⟨q0, q1, q2, q3⟩, _⟩ := (bG.next bz).four; have n5 := n4.below bz; have hB4 := hB3.trans (bz.mono hB3.size))
    | (go_at_call 13; refine (key_same i b 2 (a := [rootN]) rfl _ _ _ n5 nN).mono ?_; rintro e wy ⟨rfl, by_⟩; have hB5 := hB4.trans (by_.mono hB4.size)))
  all_goals go_wp2
  all_goals go_ret
  all_goals exact ⟨rfl, hB5⟩
namespace LBuildTrees
set_option maxRecDepth 100000 in
theorem lifted (os : Os) (started : os.Started) (H : Type) (enc : TypeId × Value → H) :
    ReturnsInHanded {} Tryz.checked os 4 .any (Rows.buildTreesSpec.pre6 enc Tryz.prog Tryz.f4 Rows.buildTreesRow.domain false) (Rows.buildTreesSpec.post enc Tryz.prog Tryz.f4 false true false false) := by
  refine returnsInHanded_of_change (C := Tryz.checked) (by kernel_rfl) started (by kernel_rfl) Tryz.func4
    (ChangeSpec.witness6 (enc := enc) (C := Tryz.checked) false ⟨#[], #[.int .i64 0, .int .i64 0], []⟩ 8 (by kernel_rfl) (by kernel_rfl) (by kernel_rfl) (by kernel_rfl)) ?_
  intro W base args ds gs before hval0 hW hcnd _
  have hval : ∀ (j : Nat) t v, Tryz.f4.params[j]? = some t → args[j]? = some v → Value.okWide Tryz.prog W .any base t v := hval0
  have hW' := hW
  obtain ⟨p, q, hA0, hV, rfl, hfz, hnd⟩ := hW
  have hA : DataW.TrodAll enc Tryz.prog W 0 (fun _ => true) true Tryz.f4.params.toList args.toList ds p := hA0
  rw [Tryz.params4] at hA hval
  obtain ⟨v0, vs0, d0, ds0, p0, q0, hargs, rfl, rfl, k0, r0⟩ := trodAll_cons hA
  obtain ⟨v1, vs1, d1, ds1, p1, q1, rfl, rfl, rfl, k1, r1⟩ := trodAll_cons r0
  obtain ⟨rfl, rfl, rfl⟩ := trodAll_nil r1
  obtain rfl : args = #[v0, v1] := by cases args; simp_all
  obtain ⟨rfl, rfl⟩ := trodVars_none hV
  have ok0 := hval 0 3 v0 rfl rfl
  have ok1 := hval 1 3 v1 rfl rfl
  have lt0 : ∀ x ∈ p0, x.block < W.heap.size := by obtain ⟨m, hm⟩ := k0; exact DataW.trod_lt m _ _ _ hm
  have lt1 : ∀ x ∈ p1, x.block < W.heap.size := by obtain ⟨m, hm⟩ := k1; exact DataW.trod_lt m _ _ _ hm
  have C : Calls Tryz.prog 4 #[v0, v1] W fun e w' => e = .returned (.bool true) ∧ Below W.heap.size W w' := by
    clear hA0 hval0 hval hW' hcnd hV hfz hnd
    obtain ⟨i, rfl, rfl, rfl, hi⟩ := open_int Tryz.underlying3 ok0 k0
    obtain ⟨b, rfl, rfl, rfl, hb⟩ := open_int Tryz.underlying3 ok1 k1
    exact lawTrees15 i b W
  refine C.mono fun e W' ⟨he, bel⟩ => ?_
  subst he
  exact ⟨_, rfl, _, _, _, [], _, [], hW', trodAll_mk1 (shut_bool Tryz.underlying4 _), (trodAll_cons_mk (Below.trod laidOut (by kernel_rfl) (of_decide_eq_true (by kernel_rfl)) k0 bel lt0) (trodAll_cons_mk (Below.trod laidOut (by kernel_rfl) (of_decide_eq_true (by kernel_rfl)) k1 bel lt1) trodAll_mk0)), rfl, bel.frame _, fun h => by cases h⟩
theorem proved : Rows.BuildTreesSaid :=
  OpenClaim.holds_of_wide 4 Tryz.f4 rfl rfl rfl rfl rfl rfl rfl ⟨rfl, rfl, rfl, rfl, rfl⟩ rfl rfl rfl rfl rfl (by kernel_rfl) Tryz.func4 (by kernel_rfl)
    (of_decide_eq_true (by kernel_rfl)) (by unfold Func.isWrapper; first | (rw [if_pos (by decide +kernel)]; kernel_rfl) | (rw [if_neg (by decide +kernel)]; exact ⟨rfl, rfl⟩))
    (fun os started H enc _ => lifted os started H enc)
#print axioms proved
end LBuildTrees
end Go.Proofs.YtkdmfeikikmiiaaGreat
