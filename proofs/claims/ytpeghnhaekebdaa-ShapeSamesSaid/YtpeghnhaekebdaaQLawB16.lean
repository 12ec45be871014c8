import Derived.Test.YtpeghnhaekebdaaQLawA16
set_option linter.unusedVariables false
set_option linter.unusedSimpArgs false
/- For every two sound file systems: package shape tells that they are alike in shape just if the document does, whichever is first; and each is alike to itself (no condition). -/
set_option linter.unusedVariables false
set_option linter.unusedSimpArgs false
namespace Go.Proofs.Ytpeghnhaekebdaa
open Go.ChangeShapes Go.WideShapes Go.ChangeAt Go.RowKit
set_option linter.unusedVariables false

set_option maxHeartbeats 16000000 in
set_option maxRecDepth 100000 in
theorem lawSames16 (ma ba na mb bb nb : Int) (la lb : List Nd) (va vb : Value) (w : World) (ha : Nds w va la) (hb : Nds w vb lb) :
    Calls Try.prog 4 #[.agg (fsC ma ba na va), .agg (fsC mb bb nb vb)] w fun e w' => e = .returned (.bool true) ∧ Below w.heap.size w w' := by
  obtain ⟨a, ca, rfl⟩ := nds_slice ha
  obtain ⟨b, cb, rfl⟩ := nds_slice hb
  have bA := (Blk.new w 24 (fsC ma ba na (.slice a la.length ca))).alloc (.cells (fsC mb bb nb (.slice b lb.length cb)) 24)
  have bB := Blk.new (w.alloc (.cells (fsC ma ba na (.slice a la.length ca)) 24)) 24 (fsC mb bb nb (.slice b lb.length cb))
  have hB := ((Below.refl w.heap.size w).alloc (Nat.le_refl _) (.cells (fsC ma ba na (.slice a la.length ca)) 24)).alloc (by simp) (.cells (fsC mb bb nb (.slice b lb.length cb)) 24)
  simp only [World.size_alloc] at bB
  have nA := ha.below hB
  have nB := hb.below hB
  clear ha hb
  generalize h0 : (w.alloc (.cells (fsC ma ba na (.slice a la.length ca)) 24)).alloc (.cells (fsC mb bb nb (.slice b lb.length cb)) 24) = w0 at *
  go_enter Try.func4, Try.ntmps4
  go_wp2_with fail
  clear h0
  refine (awake16 _).mono ?_
  rintro e w1 ⟨rfl, b1⟩
  replace bA := bA.next b1
  replace bB := bB.next b1
  replace nA := nA.below b1
  replace nB := nB.below b1
  replace hB := hB.trans (b1.mono hB.size)
  clear b1
  obtain ⟨⟨p0, p1, p2, p3⟩, _⟩ := bA.four
  obtain ⟨⟨q0, q1, q2, q3⟩, _⟩ := bB.four
  cases hoa : okB ma ba na la
  · go_wp2_with fail
    refine (refOk_any ma ba na la _ _ nA).mono ?_
    rintro e w2 ⟨rfl, b2⟩
    rw [hoa]
    go_wp2_with fail
    refine (awake16 _).mono ?_
    rintro e w3 ⟨rfl, b3⟩
    go_wp2
    go_ret
    exact ⟨rfl, hB.trans ((b2.trans (b3.mono b2.size)).mono hB.size)⟩
  go_wp2_with fail
  refine (refOk_any ma ba na la _ _ nA).mono ?_
  rintro e w2 ⟨rfl, b2⟩
  rw [hoa]
  replace bA := bA.next b2
  replace bB := bB.next b2
  replace nA := nA.below b2
  replace nB := nB.below b2
  replace hB := hB.trans (b2.mono hB.size)
  clear b2 p0 p1 p2 p3 q0 q1 q2 q3
  obtain ⟨⟨p0, p1, p2, p3⟩, _⟩ := bA.four
  obtain ⟨⟨q0, q1, q2, q3⟩, _⟩ := bB.four
  go_wp2_with fail
  refine (refOk_any mb bb nb lb _ _ nB).mono ?_
  rintro e w3 ⟨rfl, b3⟩
  cases hob : okB mb bb nb lb
  · go_wp2_with fail
    refine (awake16 _).mono ?_
    rintro e w4 ⟨rfl, b4⟩
    go_wp2
    go_ret
    exact ⟨rfl, hB.trans ((b3.trans (b4.mono b3.size)).mono hB.size)⟩
  replace bA := bA.next b3
  replace bB := bB.next b3
  replace nA := nA.below b3
  replace nB := nB.below b3
  replace hB := hB.trans (b3.mono hB.size)
  clear b3 p0 p1 p2 p3 q0 q1 q2 q3
  have ta := trim_of hoa
  have tb := trim_of hob
  obtain ⟨⟨p0, p1, p2, p3⟩, _⟩ := bA.four
  obtain ⟨⟨q0, q1, q2, q3⟩, _⟩ := bB.four
  go_upto_region 3 with fail
  clear p0 p1 p2 p3 q0 q1 q2 q3
  have HMK : ∀ W, Below w3.heap.size w3 W → (W.cell? ⟨w.heap.size, 0, none⟩ = some (.int .i64 ma) ∧ W.cell? ⟨w.heap.size, 1, none⟩ = some (.int .i64 ba) ∧ W.cell? ⟨w.heap.size, 2, none⟩ = some (.int .i64 na) ∧ W.cell? ⟨w.heap.size, 3, none⟩ = some (.slice a la.length ca) ∧ W.cell? ⟨w.heap.size + 1, 0, none⟩ = some (.int .i64 mb) ∧ W.cell? ⟨w.heap.size + 1, 1, none⟩ = some (.int .i64 bb) ∧ W.cell? ⟨w.heap.size + 1, 2, none⟩ = some (.int .i64 nb) ∧ W.cell? ⟨w.heap.size + 1, 3, none⟩ = some (.slice b lb.length cb)) := by
    intro W h
    obtain ⟨⟨x0, x1, x2, x3⟩, _⟩ := (bA.next h).four
    obtain ⟨⟨y0, y1, y2, y3⟩, _⟩ := (bB.next h).four
    exact ⟨x0, x1, x2, x3, y0, y1, y2, y3⟩
  have hq : Below w3.heap.size w3 w3.drew := (Below.refl _ _).drew
  have h1 := fun W (h : Below w3.heap.size w3 W) => Same16_any ma ba na mb bb nb la lb _ _ W (nA.below h) (nB.below h) (ok_s hoa) (ok_s hob) ta tb
  have h2 := fun W (h : Below w3.heap.size w3 W) => refSame16_any ma ba na mb bb nb la lb _ _ W (nA.below h) (nB.below h) ta tb
  have h3 := fun W (h : Below w3.heap.size w3 W) => Same16_any mb bb nb ma ba na lb la _ _ W (nB.below h) (nA.below h) (ok_s hob) (ok_s hoa) tb ta
  have h4 := fun W (h : Below w3.heap.size w3 W) => Same16_any ma ba na ma ba na la la _ _ W (nA.below h) (nA.below h) (ok_s hoa) (ok_s hoa) ta ta
  rw [show decide (shapeN lb = shapeN la) = decide (shapeN la = shapeN lb) from by simp [eq_comm]] at h3
  simp only [decide_true] at h4
  generalize decide (shapeN la = shapeN lb) = r at *
  have hrr : (r == r) = true := by simp
  clear bA bB nA nB
  go_region_held3 (fun W => W.cell? ⟨w.heap.size, 0, none⟩ = some (.int .i64 ma) ∧ W.cell? ⟨w.heap.size, 1, none⟩ = some (.int .i64 ba) ∧ W.cell? ⟨w.heap.size, 2, none⟩ = some (.int .i64 na) ∧ W.cell? ⟨w.heap.size, 3, none⟩ = some (.slice a la.length ca) ∧ W.cell? ⟨w.heap.size + 1, 0, none⟩ = some (.int .i64 mb) ∧ W.cell? ⟨w.heap.size + 1, 1, none⟩ = some (.int .i64 bb) ∧ W.cell? ⟨w.heap.size + 1, 2, none⟩ = some (.int .i64 nb) ∧ W.cell? ⟨w.heap.size + 1, 3, none⟩ = some (.slice b lb.length cb))
    (exact HMK _ hq)
    (first
      | (go_at_call 12; (with_reducible refine (h2 _ hq).mono ?_); rintro e wz ⟨rfl, bz⟩; have hq := hq.trans (bz.mono hq.size))
      | (go_at_call 11; (first | with_reducible refine (h1 _ hq).mono ?_ | with_reducible refine (h3 _ hq).mono ?_ | with_reducible refine (h4 _ hq).mono ?_); rintro e wz ⟨rfl, bz⟩; have hq := hq.trans (bz.mono hq.size)))
  all_goals go_wp2
  all_goals go_ret
  all_goals exact ⟨rfl, hB.trans (hq.mono hB.size)⟩

namespace LShapeSames
set_option maxRecDepth 100000 in
theorem lifted (os : Os) (started : os.Started) (H : Type) (enc : TypeId × Value → H) :
    ReturnsInHanded {} Try.checked os 4 .any (Rows.shapeSamesSpec.pre6 enc Try.prog Try.f4 Rows.shapeSamesRow.domain false) (Rows.shapeSamesSpec.post enc Try.prog Try.f4 false true false false) := by
  refine returnsInHanded_of_change (C := Try.checked) (by kernel_rfl) started (by kernel_rfl) Try.func4
    (ChangeSpec.witness6 (enc := enc) (C := Try.checked) false ⟨#[], #[.agg #[.int .i64 0, .int .i64 0, .int .i64 0, .slice none 0 0], .agg #[.int .i64 0, .int .i64 0, .int .i64 0, .slice none 0 0]], []⟩ 8 (by kernel_rfl) (by kernel_rfl) (by kernel_rfl) (by kernel_rfl)) ?_
  intro W base args ds gs before hval0 hW hcnd _
  have hval : ∀ (j : Nat) t v, Try.f4.params[j]? = some t → args[j]? = some v → Value.okWide Try.prog W .any base t v := hval0
  have hW' := hW
  obtain ⟨p, q, hA0, hV, rfl, hfz, hnd⟩ := hW
  have hA : DataW.TrodAll enc Try.prog W 0 (fun _ => true) true Try.f4.params.toList args.toList ds p := hA0
  rw [Try.params4] at hA hval
  obtain ⟨v0, vs0, d0, ds0, p0, q0, hargs, rfl, rfl, k0, r0⟩ := trodAll_cons hA
  obtain ⟨v1, vs1, d1, ds1, p1, q1, rfl, rfl, rfl, k1, r1⟩ := trodAll_cons r0
  obtain ⟨rfl, rfl, rfl⟩ := trodAll_nil r1
  obtain rfl : args = #[v0, v1] := by cases args; simp_all
  obtain ⟨rfl, rfl⟩ := trodVars_none hV
  have ok0 := hval 0 24 v0 rfl rfl
  have ok1 := hval 1 24 v1 rfl rfl
  have lt0 : ∀ x ∈ p0, x.block < W.heap.size := by obtain ⟨m, hm⟩ := k0; exact DataW.trod_lt m _ _ _ hm
  have lt1 : ∀ x ∈ p1, x.block < W.heap.size := by obtain ⟨m, hm⟩ := k1; exact DataW.trod_lt m _ _ _ hm
  have C : Calls Try.prog 4 #[v0, v1] W fun e w' => e = .returned (.bool true) ∧ Below W.heap.size W w' := by
    clear hA0 hval0 hval hW' hcnd hV hfz hnd
    obtain ⟨ma, ba, na, x, la, rfl, hx⟩ := fs_of_trod k0 ok0
    obtain ⟨mb, bb, nb, y, lb, rfl, hy⟩ := fs_of_trod k1 ok1
    exact lawSames16 ma ba na mb bb nb la lb x y W hx hy
  refine C.mono fun e W' ⟨he, bel⟩ => ?_
  subst he
  exact ⟨_, rfl, _, _, _, [], _, [], hW', trodAll_mk1 (shut_bool Try.underlying4 _), (trodAll_cons_mk (Below.trod laidOut (by kernel_rfl) (of_decide_eq_true (by kernel_rfl)) k0 bel lt0) (trodAll_cons_mk (Below.trod laidOut (by kernel_rfl) (of_decide_eq_true (by kernel_rfl)) k1 bel lt1) trodAll_mk0)), rfl, bel.frame _, fun h => by cases h⟩
theorem proved : Rows.ShapeSamesSaid :=
  OpenClaim.holds_of_wide 4 Try.f4 rfl rfl rfl rfl rfl rfl rfl ⟨rfl, rfl, rfl, rfl, rfl⟩ rfl rfl rfl rfl rfl (by kernel_rfl) Try.func4 (by kernel_rfl)
    (of_decide_eq_true (by kernel_rfl)) (by unfold Func.isWrapper; first | (rw [if_pos (by decide +kernel)]; kernel_rfl) | (rw [if_neg (by decide +kernel)]; exact ⟨rfl, rfl⟩))
    (fun os started H enc _ => lifted os started H enc)
#print axioms proved
end LShapeSames
end Go.Proofs.Ytpeghnhaekebdaa
