/- For every two tables of few inodes: package table tells them alike just as the document does, and each is like itself (no condition). -/
import Derived.Test.YtjdpkienljenhaaLawBase05
import Derived.Test.YtjdpkienljenhaaLawB05
import Derived.BigQuiet
import Derived.Deep.Cut
namespace Go.Proofs.Ytjdpkienljenhaa
open Go.ChangeShapes Go.WideShapes Go.ChangeAt Go.RowKit
open Go.ChangeMaps (open_string shut_string)
set_option linter.unusedVariables false

set_option maxHeartbeats 4000000 in
set_option maxRecDepth 100000 in
theorem lawSames (ma ba na mb bb nb : Int) (la lb : List Nd) (va vb : Value) (w : World) (ha : Nds w va la) (hb : Nds w vb lb) :
    Calls Try.prog 6 #[.agg (fsC ma ba na va), .agg (fsC mb bb nb vb)] w fun e w' => e = .returned (.bool true) ∧ Below w.heap.size w w' := by
  obtain ⟨a, ca, rfl⟩ := nds_slice ha
  obtain ⟨b, cb, rfl⟩ := nds_slice hb
  have bA := (Blk.new w 25 (fsC ma ba na (.slice a la.length ca))).alloc (.cells (fsC mb bb nb (.slice b lb.length cb)) 25)
  have bF := Blk.new (w.alloc (.cells (fsC ma ba na (.slice a la.length ca)) 25)) 25 (fsC mb bb nb (.slice b lb.length cb))
  have hB : Below w.heap.size w ((w.alloc (.cells (fsC ma ba na (.slice a la.length ca)) 25)).alloc (.cells (fsC mb bb nb (.slice b lb.length cb)) 25)) := ((Below.refl _ w).alloc (Nat.le_refl _) _).alloc (by simp) _
  have nA := ha.below hB
  have nV := hb.below hB
  simp only [World.size_alloc] at bF
  clear ha hb
  cases hfa : fewN la
  · go_enter Try.func6, Try.ntmps6
    go_wp2_with fail; refine (awake_any _).mono ?_; rintro e w1 ⟨rfl, b1⟩
    (replace bA := bA.next b1; replace nA := nA.below b1; replace bF := bF.next b1; replace nV := nV.below b1; replace hB := hB.trans (b1.mono hB.size))
    obtain ⟨⟨p0, p1, p2, p3⟩, _⟩ := bA.four
    go_wp2_with fail; refine (fewT_any ma ba na la _ _ nA).mono ?_; rintro e w2 ⟨rfl, b2⟩
    rw [hfa]
    go_wp2_with fail; refine (awake_any _).mono ?_; rintro e w3 ⟨rfl, b3⟩
    go_wp2
    go_ret
    exact ⟨rfl, (hB.trans (b2.mono hB.size)).trans (b3.mono (hB.trans (b2.mono hB.size)).size)⟩
  cases hfb : fewN lb
  · go_enter Try.func6, Try.ntmps6
    go_wp2_with fail; refine (awake_any _).mono ?_; rintro e w1 ⟨rfl, b1⟩
    (replace bA := bA.next b1; replace nA := nA.below b1; replace bF := bF.next b1; replace nV := nV.below b1; replace hB := hB.trans (b1.mono hB.size))
    obtain ⟨⟨p0, p1, p2, p3⟩, _⟩ := bA.four
    go_wp2_with fail; refine (fewT_any ma ba na la _ _ nA).mono ?_; rintro e w2 ⟨rfl, b2⟩
    (replace bA := bA.next b2; replace nA := nA.below b2; replace bF := bF.next b2; replace nV := nV.below b2; replace hB := hB.trans (b2.mono hB.size))
    rw [hfa]
    clear p0 p1 p2 p3
    obtain ⟨⟨p0, p1, p2, p3⟩, _⟩ := bF.four
    go_wp2_with fail; refine (fewT_any mb bb nb lb _ _ nV).mono ?_; rintro e w3 ⟨rfl, b3⟩
    (replace bA := bA.next b3; replace nA := nA.below b3; replace bF := bF.next b3; replace nV := nV.below b3; replace hB := hB.trans (b3.mono hB.size))
    rw [hfb]
    go_wp2_with fail; refine (awake_any _).mono ?_; rintro e w4 ⟨rfl, b4⟩
    go_wp2
    go_ret
    exact ⟨rfl, hB.trans (b4.mono hB.size)⟩
  go_enter Try.func6, Try.ntmps6
  go_wp2_with fail; refine (awake_any _).mono ?_; rintro e w1 ⟨rfl, b1⟩
  (replace bA := bA.next b1; replace nA := nA.below b1; replace bF := bF.next b1; replace nV := nV.below b1; replace hB := hB.trans (b1.mono hB.size))
  obtain ⟨⟨p0, p1, p2, p3⟩, _⟩ := bA.four
  go_wp2_with fail; refine (fewT_any ma ba na la _ _ nA).mono ?_; rintro e w2 ⟨rfl, b2⟩
  (replace bA := bA.next b2; replace nA := nA.below b2; replace bF := bF.next b2; replace nV := nV.below b2; replace hB := hB.trans (b2.mono hB.size))
  rw [hfa]
  clear p0 p1 p2 p3
  obtain ⟨⟨p0, p1, p2, p3⟩, _⟩ := bF.four
  go_wp2_with fail; refine (fewT_any mb bb nb lb _ _ nV).mono ?_; rintro e w3 ⟨rfl, b3⟩
  (replace bA := bA.next b3; replace nA := nA.below b3; replace bF := bF.next b3; replace nV := nV.below b3; replace hB := hB.trans (b3.mono hB.size))
  rw [hfb]
  clear p0 p1 p2 p3 b1 b2 b3
  go_upto_region 3 with fail
  have HMK : ∀ W, Below w3.heap.size w3 W → (W.cell? ⟨w.heap.size, 0, none⟩ = some (.int .i64 ma) ∧ W.cell? ⟨w.heap.size, 1, none⟩ = some (.int .i64 ba) ∧ W.cell? ⟨w.heap.size, 2, none⟩ = some (.int .i64 na) ∧ W.cell? ⟨w.heap.size, 3, none⟩ = some (.slice a la.length ca) ∧ W.cell? ⟨w.heap.size + 1, 0, none⟩ = some (.int .i64 mb) ∧ W.cell? ⟨w.heap.size + 1, 1, none⟩ = some (.int .i64 bb) ∧ W.cell? ⟨w.heap.size + 1, 2, none⟩ = some (.int .i64 nb) ∧ W.cell? ⟨w.heap.size + 1, 3, none⟩ = some (.slice b lb.length cb)) := by
    intro W h
    obtain ⟨⟨x0, x1, x2, x3⟩, _⟩ := (bA.next h).four
    obtain ⟨⟨y0, y1, y2, y3⟩, _⟩ := (bF.next h).four
    exact ⟨x0, x1, x2, x3, y0, y1, y2, y3⟩
  have hq := (Below.refl w3.heap.size w3).drew
  have hC1 := fun (W : World) (h : Below w3.heap.size w3 W) => Tab_any ma ba na mb bb nb la lb _ _ W (nA.below h) (nV.below h)
  have hC2 := fun (W : World) (h : Below w3.heap.size w3 W) => refTab_any ma ba na mb bb nb la lb _ _ W (nA.below h) (nV.below h)
  have hC3 := fun (W : World) (h : Below w3.heap.size w3 W) => Tab_any ma ba na ma ba na la la _ _ W (nA.below h) (nA.below h)
  simp only [tabB_refl] at hC3
  generalize tabB ma ba na la mb bb nb lb = T at *
  have hTT : (T == T) = true := by simp
  clear bA bF
  go_region_held3 (fun W => W.cell? ⟨w.heap.size, 0, none⟩ = some (.int .i64 ma) ∧ W.cell? ⟨w.heap.size, 1, none⟩ = some (.int .i64 ba) ∧ W.cell? ⟨w.heap.size, 2, none⟩ = some (.int .i64 na) ∧ W.cell? ⟨w.heap.size, 3, none⟩ = some (.slice a la.length ca) ∧ W.cell? ⟨w.heap.size + 1, 0, none⟩ = some (.int .i64 mb) ∧ W.cell? ⟨w.heap.size + 1, 1, none⟩ = some (.int .i64 bb) ∧ W.cell? ⟨w.heap.size + 1, 2, none⟩ = some (.int .i64 nb) ∧ W.cell? ⟨w.heap.size + 1, 3, none⟩ = some (.slice b lb.length cb))
    (exact HMK _ hq)
    (first
      | (go_at_call 11; refine (hC2 _ hq).mono ?_; rintro e wz ⟨rfl, bz⟩; have hq := hq.trans (bz.mono hq.size))
      | (go_at_call_of 23 (Value.slice b lb.length cb); refine (hC1 _ hq).mono ?_; rintro e wz ⟨rfl, bz⟩; have hq := hq.trans (bz.mono hq.size))
      | (go_at_call 23; refine (hC3 _ hq).mono ?_; rintro e wz ⟨rfl, bz⟩; have hq := hq.trans (bz.mono hq.size)))
  all_goals go_wp2
  all_goals go_ret
  all_goals exact ⟨rfl, hB.trans (hq.mono hB.size)⟩

namespace LTableSames
set_option maxRecDepth 100000 in
theorem lifted (os : Os) (started : os.Started) (H : Type) (enc : TypeId × Value → H) :
    ReturnsInHanded {} Try.checked os 6 .any (Rows.tableSamesSpec.pre6 enc Try.prog Try.f6 Rows.tableSamesRow.domain false) (Rows.tableSamesSpec.post enc Try.prog Try.f6 false true false false) := by
  refine returnsInHanded_of_change (C := Try.checked) (by kernel_rfl) started (by kernel_rfl) Try.func6
    (ChangeSpec.witness6 (enc := enc) (C := Try.checked) false ⟨#[], #[.agg #[.int .i64 0, .int .i64 0, .int .i64 0, .slice none 0 0], .agg #[.int .i64 0, .int .i64 0, .int .i64 0, .slice none 0 0]], []⟩ 8 (by kernel_rfl) (by kernel_rfl) (by kernel_rfl) (by kernel_rfl)) ?_
  intro W base args ds gs before hval0 hW hcnd _
  have hval : ∀ (j : Nat) t v, Try.f6.params[j]? = some t → args[j]? = some v → Value.okWide Try.prog W .any base t v := hval0
  have hW' := hW
  obtain ⟨p, q, hA0, hV, rfl, hfz, hnd⟩ := hW
  have hA : DataW.TrodAll enc Try.prog W 0 (fun _ => true) true Try.f6.params.toList args.toList ds p := hA0
  rw [Try.params6] at hA hval
  obtain ⟨v0, vs0, d0, ds0, p0, q0, hargs, rfl, rfl, k0, r0⟩ := trodAll_cons hA
  obtain ⟨v1, vs1, d1, ds1, p1, q1, rfl, rfl, rfl, k1, r1⟩ := trodAll_cons r0
  obtain ⟨rfl, rfl, rfl⟩ := trodAll_nil r1
  obtain rfl : args = #[v0, v1] := by cases args; simp_all
  obtain ⟨rfl, rfl⟩ := trodVars_none hV
  have ok0 := hval 0 25 v0 rfl rfl
  have ok1 := hval 1 25 v1 rfl rfl
  have lt0 : ∀ x ∈ p0, x.block < W.heap.size := by obtain ⟨m, hm⟩ := k0; exact DataW.trod_lt m _ _ _ hm
  have lt1 : ∀ x ∈ p1, x.block < W.heap.size := by obtain ⟨m, hm⟩ := k1; exact DataW.trod_lt m _ _ _ hm
  have C : Calls Try.prog 6 #[v0, v1] W fun e w' => e = .returned (.bool true) ∧ Below W.heap.size W w' := by
    clear hA0 hval0 hval hW' hcnd hV hfz hnd
    obtain ⟨ma, ba, na, x, la, rfl, hx⟩ := fs_of_trod k0 ok0
    obtain ⟨mb, bb, nb, y, lb, rfl, hy⟩ := fs_of_trod k1 ok1
    exact lawSames ma ba na mb bb nb la lb x y W hx hy
  refine C.mono fun e W' ⟨he, bel⟩ => ?_
  subst he
  exact ⟨_, rfl, _, _, _, [], _, [], hW', trodAll_mk1 (shut_bool Try.underlying4 _), (trodAll_cons_mk (Below.trod laidOut (by kernel_rfl) (of_decide_eq_true (by kernel_rfl)) k0 bel lt0) (trodAll_cons_mk (Below.trod laidOut (by kernel_rfl) (of_decide_eq_true (by kernel_rfl)) k1 bel lt1) trodAll_mk0)), rfl, bel.frame _, fun h => by cases h⟩
theorem proved : Rows.TableSamesSaid :=
  OpenClaim.holds_of_wide 6 Try.f6 rfl rfl rfl rfl rfl rfl rfl ⟨rfl, rfl, rfl, rfl, rfl⟩ rfl rfl rfl rfl rfl (by kernel_rfl) Try.func6 (by kernel_rfl)
    (of_decide_eq_true (by kernel_rfl)) (by unfold Func.isWrapper; first | (rw [if_pos (by decide +kernel)]; kernel_rfl) | (rw [if_neg (by decide +kernel)]; exact ⟨rfl, rfl⟩))
    (fun os started H enc _ => lifted os started H enc)
#print axioms proved
end LTableSames
end Go.Proofs.Ytjdpkienljenhaa
