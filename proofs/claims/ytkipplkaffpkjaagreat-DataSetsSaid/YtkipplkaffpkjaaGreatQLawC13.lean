import Derived.Test.YtkipplkaffpkjaaGreatQLawBase13
set_option linter.unusedVariables false
set_option linter.unusedSimpArgs false
/- For every sound file system, the number of a file, and data that are short: package data sets the file's content as the document does (no condition). -/
set_option linter.unusedVariables false
set_option linter.unusedSimpArgs false
namespace Go.Proofs.YtkipplkaffpkjaaGreat
open Go.ChangeShapes Go.WideShapes Go.ChangeAt Go.RowKit
open Go.ChangeMaps (open_string shut_string)
set_option linter.unusedVariables false

set_option maxHeartbeats 8000000 in
set_option maxRecDepth 100000 in
theorem lawSets13 (mi mb nx : Int) (l : List Nd) (i : Int) (d : List UInt8) (v : Value) (w : World) (hv : Nds w v l) :
    Calls Tryz.prog 5 #[.agg (fsC mi mb nx v), .int .i64 i, .string ⟨d.toArray⟩] w fun e w' => e = .returned (.bool true) ∧ Below w.heap.size w w' := by
  obtain ⟨a, ca, rfl⟩ := nds_slice hv
  have bF := Blk.new w 24 (fsC mi mb nx (.slice a l.length ca))
  have hB := alloc_below w (.cells (fsC mi mb nx (.slice a l.length ca)) 24)
  have nV := hv.below hB
  have HV := Lib.hid hv
  clear hv
  cases hf : fit13B mi mb nx l [47] [47] d
  · go_enter Tryz.func5, Tryz.ntmps5
    go_wp2_with fail; refine (awake13 _).mono ?_; rintro e w1 ⟨rfl, b⟩
    (replace bF := bF.next b; replace nV := nV.below b; replace hB := hB.trans (b.mono hB.size))
    obtain ⟨⟨p0, p1, p2, p3⟩, _⟩ := bF.four
    go_wp2_with fail; refine (fits13_any mi mb nx l [47] [47] d _ _ nV).mono ?_; rintro e w2 ⟨rfl, b2⟩
    (replace bF := bF.next b2; replace nV := nV.below b2; replace hB := hB.trans (b2.mono hB.size))
    rw [hf]
    go_wp2_with fail; refine (awake13 _).mono ?_; rintro e w3 ⟨rfl, b3⟩
    go_wp2
    go_ret
    exact ⟨rfl, hB.trans (b3.mono hB.size)⟩
  obtain ⟨hok, hsh, hdl⟩ := fit13_parts hf
  obtain ⟨hbl, hpl⟩ := short13 hsh
  have hc := calm_of hok
  have HC := Lib.hid (fun hi hk W hW => Set13_any mi mb nx i l d (.slice a l.length ca) W hW (ok_s hok) hi hk (by omega))
  have HR := Lib.hid (fun W hW => refSet13_any mi mb nx i l d (.slice a l.length ca) W hW hc.rise (by have := hc.len; omega) (by have := (fit_of hok).bytes; omega) (by omega) (by have := (calm_get hc i).2.2.1; omega))
  generalize setF mi mb l i d = R at *
  go_enter Tryz.func5, Tryz.ntmps5
  go_wp2_with fail; refine (awake13 _).mono ?_; rintro e w1 ⟨rfl, b⟩
  (replace bF := bF.next b; replace nV := nV.below b; replace hB := hB.trans (b.mono hB.size))
  obtain ⟨⟨p0, p1, p2, p3⟩, _⟩ := bF.four
  go_wp2_with fail; refine (fits13_any mi mb nx l [47] [47] d _ _ nV).mono ?_; rintro e w2 ⟨rfl, b2⟩
  (replace bF := bF.next b2; replace nV := nV.below b2; replace hB := hB.trans (b2.mono hB.size))
  rw [hf]
  clear b b2 p0 p1 p2 p3
  have hGt := refGetT_any mi mb nx i l _ _ nV
  obtain ⟨ag, ng, cg, hgs⟩ := get_slice HV.out i
  obtain ⟨⟨p0, p1, p2, p3⟩, _⟩ := bF.four
  cases hh : hasN l i
  · rw [hh, getN_none hh, show zeroN = ⟨0, 0, 0, [], 0, .slice none 0 0, []⟩ from rfl] at hGt
    go_wp2_with fail
    refine hGt.mono ?_
    rintro e w4 ⟨rfl, b3⟩
    go_wp2
    go_ret
    exact ⟨rfl, hB.trans ((b3.trans ((alloc_below w4 _).mono b3.size)).mono hB.size)⟩
  rw [hh] at hGt
  replace HC := Lib.hid (fun hk => HC.out hh hk)
  generalize getN l i = X at *
  obtain ⟨xi, xk, xl, xd, xp, xv, xn⟩ := X
  dsimp only at hgs HC
  subst hgs
  go_wp2_with fail
  refine hGt.mono ?_
  rintro e w4 ⟨rfl, b3⟩
  have s3 := alloc_below w4 (.cells (ndC ⟨xi, xk, xl, xd, xp, .slice ag ng cg, xn⟩) 29)
  have bX := Blk.new w4 29 (ndC ⟨xi, xk, xl, xd, xp, .slice ag ng cg, xn⟩)
  have b5 := b3.trans (s3.mono b3.size)
  (replace bF := bF.next b5; replace nV := nV.below b5; replace hB := hB.trans (b5.mono hB.size))
  clear b3 s3 b5 p0 p1 p2 p3 hGt
  obtain ⟨⟨x0, x1, x2, x3, x4, x5⟩, _⟩ := bX.six
  dsimp only at x0 x1 x2 x3 x4 x5
  by_cases hk : xk = 1
  case neg =>
    have hk2 : (xk != 1) = true := by simpa using hk
    go_wp2
    go_ret
    exact ⟨rfl, hB⟩
  subst hk
  replace HC := Lib.hid (HC.out rfl)
  obtain ⟨⟨p0, p1, p2, p3⟩, _⟩ := bF.four
  go_wp2_with fail
  refine (HC.out _ nV).mono ?_
  rintro e u1 ⟨y1, rfl, hM1, b3⟩
  have n1 := hM1.now nV b3
  obtain ⟨L, q⟩ := R
  (try dsimp only at n1)
  obtain ⟨a1, c1, rfl⟩ := nds_slice n1
  have s3 := alloc_below u1 (.cells (fsC mi mb nx (.slice a1 L.length c1)) 24)
  have bA := Blk.new u1 24 (fsC mi mb nx (.slice a1 L.length c1))
  replace n1 := n1.below s3
  have b5 := b3.trans (s3.mono b3.size)
  (replace bF := bF.next b5; replace nV := nV.below b5; replace hB := hB.trans (b5.mono hB.size))
  clear b3 s3 b5 p0 p1 p2 p3 hM1 x0 x1 x2 x3 x4 x5 bX
  obtain ⟨⟨p0, p1, p2, p3⟩, _⟩ := bF.four
  go_wp2_with fail
  refine (HR.out _ nV).mono ?_
  rintro e v1 ⟨y2, rfl, hM2, b4⟩
  have m1 := hM2.now nV b4
  (try dsimp only at m1)
  obtain ⟨d1, k1, rfl⟩ := nds_slice m1
  have s4 := alloc_below v1 (.cells (fsC mi mb nx (.slice d1 L.length k1)) 24)
  have bC := Blk.new v1 24 (fsC mi mb nx (.slice d1 L.length k1))
  replace m1 := m1.below s4
  have b5 := b4.trans (s4.mono b4.size)
  replace n1 := n1.below b5
  replace bA := bA.next b5
  (replace bF := bF.next b5; replace nV := nV.below b5; replace hB := hB.trans (b5.mono hB.size))
  clear b4 s4 b5 p0 p1 p2 p3 hM2
  obtain ⟨⟨f0, f1, f2, f3⟩, _⟩ := bA.four
  obtain ⟨⟨g0, g1, g2, g3⟩, _⟩ := bC.four
  have hS1 := refTab_any mi mb nx mi mb nx L L _ _ _ n1 m1
  rw [tab_alike (onesB_refl L)] at hS1
  go_wp2_with fail
  refine hS1.mono ?_
  rintro e w8 ⟨rfl, b8⟩
  go_wp2
  go_ret
  exact ⟨rfl, hB.trans (b8.mono hB.size)⟩

namespace LDataSets
set_option maxRecDepth 100000 in
theorem lifted (os : Os) (started : os.Started) (H : Type) (enc : TypeId × Value → H) :
    ReturnsInHanded {} Tryz.checked os 5 .any (Rows.dataSetsSpec.pre6 enc Tryz.prog Tryz.f5 Rows.dataSetsRow.domain false) (Rows.dataSetsSpec.post enc Tryz.prog Tryz.f5 false true false false) := by
  refine returnsInHanded_of_change (C := Tryz.checked) (by kernel_rfl) started (by kernel_rfl) Tryz.func5
    (ChangeSpec.witness6 (enc := enc) (C := Tryz.checked) false ⟨#[], #[.agg #[.int .i64 0, .int .i64 0, .int .i64 0, .slice none 0 0], .int .i64 0, .string ByteArray.empty], []⟩ 8 (by kernel_rfl) (by kernel_rfl) (by kernel_rfl) (by kernel_rfl)) ?_
  intro W base args ds gs before hval0 hW hcnd _
  have hval : ∀ (j : Nat) t v, Tryz.f5.params[j]? = some t → args[j]? = some v → Value.okWide Tryz.prog W .any base t v := hval0
  have hW' := hW
  obtain ⟨p, q, hA0, hV, rfl, hfz, hnd⟩ := hW
  have hA : DataW.TrodAll enc Tryz.prog W 0 (fun _ => true) true Tryz.f5.params.toList args.toList ds p := hA0
  rw [Tryz.params5] at hA hval
  obtain ⟨v0, vs0, d0, ds0, p0, q0, hargs, rfl, rfl, k0, r0⟩ := trodAll_cons hA
  obtain ⟨v1, vs1, d1, ds1, p1, q1, rfl, rfl, rfl, k1, r1⟩ := trodAll_cons r0
  obtain ⟨v2, vs2, d2, ds2, p2, q2, rfl, rfl, rfl, k2, r2⟩ := trodAll_cons r1
  obtain ⟨rfl, rfl, rfl⟩ := trodAll_nil r2
  obtain rfl : args = #[v0, v1, v2] := by cases args; simp_all
  obtain ⟨rfl, rfl⟩ := trodVars_none hV
  have ok0 := hval 0 24 v0 rfl rfl
  have ok1 := hval 1 3 v1 rfl rfl
  have ok2 := hval 2 9 v2 rfl rfl
  have lt0 : ∀ x ∈ p0, x.block < W.heap.size := by obtain ⟨m, hm⟩ := k0; exact DataW.trod_lt m _ _ _ hm
  have lt1 : ∀ x ∈ p1, x.block < W.heap.size := by obtain ⟨m, hm⟩ := k1; exact DataW.trod_lt m _ _ _ hm
  have lt2 : ∀ x ∈ p2, x.block < W.heap.size := by obtain ⟨m, hm⟩ := k2; exact DataW.trod_lt m _ _ _ hm
  have C : Calls Tryz.prog 5 #[v0, v1, v2] W fun e w' => e = .returned (.bool true) ∧ Below W.heap.size W w' := by
    clear hA0 hval0 hval hW' hcnd hV hfz hnd
    obtain ⟨mi, mb, nx, x, l, rfl, hx⟩ := fs_of_trod k0 ok0
    obtain ⟨t, rfl, rfl, rfl, ht⟩ := open_int Tryz.underlying3 ok1 k1
    obtain ⟨s2, rfl, rfl, rfl, hs2⟩ := open_string Tryz.underlying9 ok2 k2
    rw [str_eta s2]
    exact lawSets13 mi mb nx l t _ x W hx
  refine C.mono fun e W' ⟨he, bel⟩ => ?_
  subst he
  exact ⟨_, rfl, _, _, _, [], _, [], hW', trodAll_mk1 (shut_bool Tryz.underlying4 _), (trodAll_cons_mk (Below.trod laidOut (by kernel_rfl) (of_decide_eq_true (by kernel_rfl)) k0 bel lt0) (trodAll_cons_mk (Below.trod laidOut (by kernel_rfl) (of_decide_eq_true (by kernel_rfl)) k1 bel lt1) (trodAll_cons_mk (Below.trod laidOut (by kernel_rfl) (of_decide_eq_true (by kernel_rfl)) k2 bel lt2) trodAll_mk0))), rfl, bel.frame _, fun h => by cases h⟩
theorem proved : Rows.DataSetsSaid :=
  OpenClaim.holds_of_wide 5 Tryz.f5 rfl rfl rfl rfl rfl rfl rfl ⟨rfl, rfl, rfl, rfl, rfl⟩ rfl rfl rfl rfl rfl (by kernel_rfl) Tryz.func5 (by kernel_rfl)
    (of_decide_eq_true (by kernel_rfl)) (by unfold Func.isWrapper; first | (rw [if_pos (by decide +kernel)]; kernel_rfl) | (rw [if_neg (by decide +kernel)]; exact ⟨rfl, rfl⟩))
    (fun os started H enc _ => lifted os started H enc)
#print axioms proved
end LDataSets
end Go.Proofs.YtkipplkaffpkjaaGreat
