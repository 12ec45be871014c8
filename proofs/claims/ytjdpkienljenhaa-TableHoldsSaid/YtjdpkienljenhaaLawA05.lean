/- For every two counts: package table makes the document's table of them, or says that they may not be (no condition). -/
import Derived.Test.YtjdpkienljenhaaLawBase05
import Derived.BigQuiet
namespace Go.Proofs.Ytjdpkienljenhaa
open Go.ChangeShapes Go.WideShapes Go.ChangeAt Go.RowKit
open Go.ChangeMaps (open_string shut_string)
set_option linter.unusedVariables false

theorem news_zero (w : World) : Calls Try.prog 11 #[.agg (fsC 0 0 0 (.slice none 0 0)), .agg (fsC 0 0 0 (.slice none 0 0))] w fun e w' => e = .returned (.bool true) ∧ Below w.heap.size w w' := by
  have := refTab_any 0 0 0 0 0 0 [] [] _ _ w (Nds.nil_ _) (Nds.nil_ _)
  rwa [tabB_refl] at this
theorem tab_same (mi mb nx : Int) (l : List Nd) (va vb : Value) (w : World) (ha : Nds w va l) (hb : Nds w vb l) : Calls Try.prog 11 #[.agg (fsC mi mb nx va), .agg (fsC mi mb nx vb)] w fun e w' => e = .returned (.bool true) ∧ Below w.heap.size w w' := by
  have := refTab_any mi mb nx mi mb nx l l _ _ w ha hb
  rwa [tabB_refl] at this

set_option maxHeartbeats 2000000 in
theorem lawNews (i b : Int) (w : World) :
    Calls Try.prog 3 #[.int .i64 i, .int .i64 b] w fun e w' => e = .returned (.bool true) ∧ Below w.heap.size w w' := by
  by_cases h1 : i < 1
  · (go_enter Try.func3, Try.ntmps3; go_wp2_with fail; refine (awake_any _).mono ?_; rintro e w1 ⟨rfl, b1⟩; go_wp2_with fail; refine (New_bad i b _ (.inl h1)).mono ?_; rintro e w2 ⟨rfl, b2⟩; have hB := b1.trans (b2.mono b1.size); have hB2 := hB.trans ((alloc_below w2 (.cells #[.int .i64 0, .int .i64 0, .int .i64 0, .slice none 0 0] 25)).mono hB.size); go_wp2_with fail; refine (news_zero _).mono ?_; rintro e w3 ⟨rfl, b3⟩; go_wp2; go_ret; exact ⟨rfl, hB2.trans (b3.mono hB2.size)⟩)
  by_cases h2 : 1073741824 < i
  · (go_enter Try.func3, Try.ntmps3; go_wp2_with fail; refine (awake_any _).mono ?_; rintro e w1 ⟨rfl, b1⟩; go_wp2_with fail; refine (New_bad i b _ (.inr (.inl h2))).mono ?_; rintro e w2 ⟨rfl, b2⟩; have hB := b1.trans (b2.mono b1.size); have hB2 := hB.trans ((alloc_below w2 (.cells #[.int .i64 0, .int .i64 0, .int .i64 0, .slice none 0 0] 25)).mono hB.size); go_wp2_with fail; refine (news_zero _).mono ?_; rintro e w3 ⟨rfl, b3⟩; go_wp2; go_ret; exact ⟨rfl, hB2.trans (b3.mono hB2.size)⟩)
  by_cases h3 : b < 0
  · (go_enter Try.func3, Try.ntmps3; go_wp2_with fail; refine (awake_any _).mono ?_; rintro e w1 ⟨rfl, b1⟩; go_wp2_with fail; refine (New_bad i b _ (.inr (.inr (.inl h3)))).mono ?_; rintro e w2 ⟨rfl, b2⟩; have hB := b1.trans (b2.mono b1.size); have hB2 := hB.trans ((alloc_below w2 (.cells #[.int .i64 0, .int .i64 0, .int .i64 0, .slice none 0 0] 25)).mono hB.size); go_wp2_with fail; refine (news_zero _).mono ?_; rintro e w3 ⟨rfl, b3⟩; go_wp2; go_ret; exact ⟨rfl, hB2.trans (b3.mono hB2.size)⟩)
  by_cases h4 : 1073741824 < b
  · (go_enter Try.func3, Try.ntmps3; go_wp2_with fail; refine (awake_any _).mono ?_; rintro e w1 ⟨rfl, b1⟩; go_wp2_with fail; refine (New_bad i b _ (.inr (.inr (.inr h4)))).mono ?_; rintro e w2 ⟨rfl, b2⟩; have hB := b1.trans (b2.mono b1.size); have hB2 := hB.trans ((alloc_below w2 (.cells #[.int .i64 0, .int .i64 0, .int .i64 0, .slice none 0 0] 25)).mono hB.size); go_wp2_with fail; refine (news_zero _).mono ?_; rintro e w3 ⟨rfl, b3⟩; go_wp2; go_ret; exact ⟨rfl, hB2.trans (b3.mono hB2.size)⟩)
  have HN := New_ok i b
  go_enter Try.func3, Try.ntmps3
  go_wp2_with fail; refine (awake_any _).mono ?_; rintro e w1 ⟨rfl, b1⟩
  go_wp2_with fail; refine (HN _ h1 h2 h3 h4).mono ?_; rintro e w2 ⟨v2, rfl, n2, b2⟩
  obtain ⟨a2, c2, rfl⟩ := nds_slice n2
  have hB := b1.trans (b2.mono b1.size)
  have bF := Blk.new w2 25 (fsC i b 2 (.slice a2 1 c2))
  have hS := alloc_below w2 (.cells (fsC i b 2 (.slice a2 1 c2)) 25)
  have hB2 := hB.trans (hS.mono hB.size)
  have n3 := n2.below hS
  clear b1 b2 n2 hS HN
  obtain ⟨⟨p0, p1, p2, p3⟩, _⟩ := bF.four
  go_upto_region 6 with fail
  generalize hwa : w2.alloc (.cells (fsC i b 2 (.slice a2 1 c2)) 25) = wa at *
  have bG : Blk wa.drew w2.heap.size 25 (fsC i b 2 (.slice a2 1 c2)) := bF
  have n4 : Nds wa.drew (.slice a2 1 c2) [rootN] := n3
  have hB3 : Below w.heap.size w wa.drew := hB2.drew
  clear bF n3 hwa
  go_region_with (first
    | (go_at_call 12; refine (refNewT_any i b _).mono ?_; rintro e wz ⟨vn, rfl, nN, bz⟩; obtain ⟨an, cn, rfl⟩ := nds_slice nN; obtain ⟨⟨q0, q1, q2, q3⟩, _⟩ := (bG.next bz).four; have n5 := n4.below bz; have hB4 := hB3.trans (bz.mono hB3.size))
    | (go_at_call 11; refine (tab_same i b 2 [rootN] _ _ _ n5 nN).mono ?_; rintro e wy ⟨rfl, by_⟩; have hB5 := hB4.trans (by_.mono hB4.size)))
  all_goals go_wp2
  all_goals go_ret
  all_goals exact ⟨rfl, hB5⟩

namespace LTableNews
set_option maxRecDepth 100000 in
theorem lifted (os : Os) (started : os.Started) (H : Type) (enc : TypeId × Value → H) :
    ReturnsInHanded {} Try.checked os 3 .any (Rows.tableNewsSpec.pre6 enc Try.prog Try.f3 Rows.tableNewsRow.domain false) (Rows.tableNewsSpec.post enc Try.prog Try.f3 false true false false) := by
  refine returnsInHanded_of_change (C := Try.checked) (by kernel_rfl) started (by kernel_rfl) Try.func3
    (ChangeSpec.witness6 (enc := enc) (C := Try.checked) false ⟨#[], #[.int .i64 0, .int .i64 0], []⟩ 8 (by kernel_rfl) (by kernel_rfl) (by kernel_rfl) (by kernel_rfl)) ?_
  intro W base args ds gs before hval0 hW hcnd _
  have hval : ∀ (j : Nat) t v, Try.f3.params[j]? = some t → args[j]? = some v → Value.okWide Try.prog W .any base t v := hval0
  have hW' := hW
  obtain ⟨p, q, hA0, hV, rfl, hfz, hnd⟩ := hW
  have hA : DataW.TrodAll enc Try.prog W 0 (fun _ => true) true Try.f3.params.toList args.toList ds p := hA0
  rw [Try.params3] at hA hval
  obtain ⟨v0, vs0, d0, ds0, p0, q0, hargs, rfl, rfl, k0, r0⟩ := trodAll_cons hA
  obtain ⟨v1, vs1, d1, ds1, p1, q1, rfl, rfl, rfl, k1, r1⟩ := trodAll_cons r0
  obtain ⟨rfl, rfl, rfl⟩ := trodAll_nil r1
  obtain rfl : args = #[v0, v1] := by cases args; simp_all
  obtain ⟨rfl, rfl⟩ := trodVars_none hV
  have ok0 := hval 0 3 v0 rfl rfl
  have ok1 := hval 1 3 v1 rfl rfl
  have lt0 : ∀ x ∈ p0, x.block < W.heap.size := by obtain ⟨m, hm⟩ := k0; exact DataW.trod_lt m _ _ _ hm
  have lt1 : ∀ x ∈ p1, x.block < W.heap.size := by obtain ⟨m, hm⟩ := k1; exact DataW.trod_lt m _ _ _ hm
  have C : Calls Try.prog 3 #[v0, v1] W fun e w' => e = .returned (.bool true) ∧ Below W.heap.size W w' := by
    clear hA0 hval0 hval hW' hcnd hV hfz hnd
    obtain ⟨i, rfl, rfl, rfl, hi⟩ := open_int Try.underlying3 ok0 k0
    obtain ⟨b, rfl, rfl, rfl, hb⟩ := open_int Try.underlying3 ok1 k1
    exact lawNews i b W
  refine C.mono fun e W' ⟨he, bel⟩ => ?_
  subst he
  exact ⟨_, rfl, _, _, _, [], _, [], hW', trodAll_mk1 (shut_bool Try.underlying4 _), (trodAll_cons_mk (Below.trod laidOut (by kernel_rfl) (of_decide_eq_true (by kernel_rfl)) k0 bel lt0) (trodAll_cons_mk (Below.trod laidOut (by kernel_rfl) (of_decide_eq_true (by kernel_rfl)) k1 bel lt1) trodAll_mk0)), rfl, bel.frame _, fun h => by cases h⟩
theorem proved : Rows.TableNewsSaid :=
  OpenClaim.holds_of_wide 3 Try.f3 rfl rfl rfl rfl rfl rfl rfl ⟨rfl, rfl, rfl, rfl, rfl⟩ rfl rfl rfl rfl rfl (by kernel_rfl) Try.func3 (by kernel_rfl)
    (of_decide_eq_true (by kernel_rfl)) (by unfold Func.isWrapper; first | (rw [if_pos (by decide +kernel)]; kernel_rfl) | (rw [if_neg (by decide +kernel)]; exact ⟨rfl, rfl⟩))
    (fun os started H enc _ => lifted os started H enc)
#print axioms proved
end LTableNews
end Go.Proofs.Ytjdpkienljenhaa
