/- For whatever parts: the text that package path makes of them, and the plain path of their names, are the document's (no condition). -/
import Derived.Test.YtgonjgbdggpedaaLawBase03
import Derived.Deep.RegionWith
namespace Go.Proofs.Ytgonjgbdggpedaa
open Go.ChangeShapes Go.WideShapes Go.ChangeAt Go.RowKit
set_option linter.unusedVariables false

theorem few_joins {ns : List (List UInt8)} (h : fewB ns = true) : ns.length ≤ 40 ∧ (tailB ns).length ≤ 20000 ∧ (interB ns).length ≤ 20000 := by
  obtain ⟨h1, h2⟩ := fewB_small h
  have h3 := interB_len_tail ns
  have h4 := tailB_len ns 300 h2
  have h5 : ns.length * 301 ≤ 40 * 301 := Nat.mul_le_mul h1 (by omega)
  refine ⟨h1, ?_, ?_⟩ <;> omega

set_option maxHeartbeats 4000000 in
theorem lawPuts (a s : Bool) (ns : List (List UInt8)) (v : Value) (w : World) (hv : Strs w v ns) :
    Calls Try.prog 4 #[.agg (pathV a v s)] w fun e w' => e = .returned (.bool true) ∧ Below w.heap.size w w' := by
  have x0 := Blk.new w 26 (pathV a v s)
  have t0 : Below w.heap.size w (w.alloc (.cells (pathV a v s) 26)) := (Below.refl _ w).alloc (Nat.le_refl _) _
  have hv0 := hv.below t0
  have HV := Lib.hid hv0
  obtain ⟨ad, cap, rfl, _, _⟩ := hv
  go_enter Try.func4, Try.ntmps4
  go_wp2_with fail
  generalize w.alloc (.cells (pathV a (.slice ad ns.length cap) s) 26) = W at *
  refine (awake_any _).mono ?_
  rintro e w1 ⟨rfl, b1⟩
  have hv1 := HV.out.below b1
  have x1 := x0.next b1
  have h1 := t0.trans (b1.mono t0.size)
  have q1 := x1.cell 1
  simp [pathV] at q1
  clear x0 t0 hv0 HV b1
  go_wp2_with fail; refine (Few_any ns _ _ hv1).mono ?_; rintro e w2 ⟨rfl, rfl⟩
  cases hf : fewB ns
  · clear q1
    go_wp2_with fail; refine (awake_any _).mono ?_; rintro e w2 ⟨rfl, b2⟩
    go_wp2
    go_ret
    exact ⟨rfl, h1.trans (b2.mono h1.size)⟩
  · obtain ⟨f1, f2, f3⟩ := few_joins hf
    clear q1 hf
    go_wp2_with fail
    have h2 : Below w.heap.size w w1.drew := h1.drew
    have hv2 : Strs w1.drew (.slice ad ns.length cap) ns := hv1
    have x2 : Blk w1.drew w.heap.size 26 (pathV a (.slice ad ns.length cap) s) := x1
    have hp0 : w1.drew.cell? ⟨w.heap.size, 0, none⟩ = some (.bool a) := (x2.cell 0).trans rfl
    have hp1 : w1.drew.cell? ⟨w.heap.size, 1, none⟩ = some (.slice ad ns.length cap) := (x2.cell 1).trans rfl
    have hp2 : w1.drew.cell? ⟨w.heap.size, 2, none⟩ = some (.bool s) := (x2.cell 2).trans rfl
    clear hv1 x1 h1
    go_region_with (first
      | (go_at_call 16; refine (Put_any a s ns _ _ hv2 (by omega) (by omega)).mono ?_; rintro e w3 ⟨rfl, b3⟩; have hv3 := hv2.below b3; have x3 := x2.next b3; have h3 := h2.trans (b3.mono h2.size)
         have q0 : w3.cell? ⟨w.heap.size, 0, none⟩ = some (.bool a) := (x3.cell 0).trans rfl
         have q1 : w3.cell? ⟨w.heap.size, 1, none⟩ = some (.slice ad ns.length cap) := (x3.cell 1).trans rfl
         have q2 : w3.cell? ⟨w.heap.size, 2, none⟩ = some (.bool s) := (x3.cell 2).trans rfl)
      | (go_at_call 17; refine (refPut_any a s ns _ _ hv3 (by omega) (by omega)).mono ?_; rintro e w4 ⟨rfl, b4⟩; have hv4 := hv3.below b4; have x4 := x3.next b4; have h4 := h3.trans (b4.mono h3.size)
         have r1 : w4.cell? ⟨w.heap.size, 1, none⟩ = some (.slice ad ns.length cap) := (x4.cell 1).trans rfl)
      | (go_at_call 18; refine (Join_any ns _ _ hv4 (by omega) (by omega)).mono ?_; rintro e w5 ⟨rfl, b5⟩; have hv5 := hv4.below b5; have x5 := x4.next b5; have h5 := h4.trans (b5.mono h4.size)
         have s1 : w5.cell? ⟨w.heap.size, 1, none⟩ = some (.slice ad ns.length cap) := (x5.cell 1).trans rfl)
      | (go_at_call 19; refine (refJoin_any ns _ _ hv5 (by omega) (by omega)).mono ?_; rintro e w6 ⟨rfl, rfl⟩))
    all_goals go_wp2
    all_goals go_ret
    all_goals exact ⟨rfl, h5⟩

namespace LPathPuts
set_option maxRecDepth 100000 in
theorem lifted (os : Os) (started : os.Started) (H : Type) (enc : TypeId × Value → H) :
    ReturnsInHanded {} Try.checked os 4 .any (Rows.pathPutsSpec.pre6 enc Try.prog Try.f4 Rows.pathPutsRow.domain false) (Rows.pathPutsSpec.post enc Try.prog Try.f4 false true false false) := by
  refine returnsInHanded_of_change (C := Try.checked) (by kernel_rfl) started (by kernel_rfl) Try.func4
    (ChangeSpec.witness6 (enc := enc) (C := Try.checked) false ⟨#[], #[.agg #[.bool false, .slice none 0 0, .bool false]], []⟩ 8 (by kernel_rfl) (by kernel_rfl) (by kernel_rfl) (by kernel_rfl)) ?_
  intro W base args ds gs before hval0 hW hcnd _
  have hval : ∀ (j : Nat) t v, Try.f4.params[j]? = some t → args[j]? = some v → Value.okWide Try.prog W .any base t v := hval0
  have hW' := hW
  obtain ⟨p, q, hA0, hV, rfl, hfz, hnd⟩ := hW
  have hA : DataW.TrodAll enc Try.prog W 0 (fun _ => true) true Try.f4.params.toList args.toList ds p := hA0
  rw [Try.params4] at hA hval
  obtain ⟨v0, vs0, d0, ds0, p0, q0, hargs, rfl, rfl, k0, r0⟩ := trodAll_cons hA
  obtain ⟨rfl, rfl, rfl⟩ := trodAll_nil r0
  obtain rfl : args = #[v0] := by cases args; simp_all
  obtain ⟨rfl, rfl⟩ := trodVars_none hV
  have ok0 := hval 0 26 v0 rfl rfl
  have lt0 : ∀ x ∈ p0, x.block < W.heap.size := by obtain ⟨m, hm⟩ := k0; exact DataW.trod_lt m _ _ _ hm
  have C : Calls Try.prog 4 #[v0] W fun e w' => e = .returned (.bool true) ∧ Below W.heap.size W w' := by
    clear hA0 hval0 hval hW' hcnd hV hfz hnd
    obtain ⟨a, x, s, l, rfl, hl⟩ := path_of_trod ok0 k0
    exact lawPuts a s l x W hl
  refine C.mono fun e W' ⟨he, bel⟩ => ?_
  subst he
  exact ⟨_, rfl, _, _, _, [], _, [], hW', trodAll_mk1 (shut_bool Try.underlying4 _), (trodAll_cons_mk (Below.trod laidOut (by kernel_rfl) (of_decide_eq_true (by kernel_rfl)) k0 bel lt0) trodAll_mk0), rfl, bel.frame _, fun h => by cases h⟩
theorem proved : Rows.PathPutsSaid :=
  OpenClaim.holds_of_wide 4 Try.f4 rfl rfl rfl rfl rfl rfl rfl ⟨rfl, rfl, rfl, rfl, rfl⟩ rfl rfl rfl rfl rfl (by kernel_rfl) Try.func4 (by kernel_rfl)
    (of_decide_eq_true (by kernel_rfl)) (by unfold Func.isWrapper; first | (rw [if_pos (by decide +kernel)]; kernel_rfl) | (rw [if_neg (by decide +kernel)]; exact ⟨rfl, rfl⟩))
    (fun os started H enc _ => lifted os started H enc)
#print axioms proved
end LPathPuts

end Go.Proofs.Ytgonjgbdggpedaa
