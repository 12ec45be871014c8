import Derived.Test.YtkipplkaffpkjaaGreatQLawBase13
set_option linter.unusedVariables false
set_option linter.unusedSimpArgs false
/- For every sound file system, and a base and a path that are short: package data tells the inode, what a file holds and where a link leads as the document does (no condition). -/
set_option linter.unusedVariables false
set_option linter.unusedSimpArgs false
namespace Go.Proofs.YtkipplkaffpkjaaGreat
open Go.ChangeShapes Go.WideShapes Go.ChangeAt Go.RowKit
open Go.ChangeMaps (open_string shut_string)
set_option linter.unusedVariables false

set_option maxHeartbeats 8000000 in
set_option maxRecDepth 100000 in
theorem lawReads13 (mi mb nx : Int) (l : List Nd) (base p : List UInt8) (fo : Bool) (v : Value) (w : World) (hv : Nds w v l) :
    Calls Tryz.prog 3 #[.agg (fsC mi mb nx v), .string ⟨base.toArray⟩, .string ⟨p.toArray⟩, .bool fo] w fun e w' => e = .returned (.bool true) ∧ Below w.heap.size w w' := by
  obtain ⟨a, ca, rfl⟩ := nds_slice hv
  have bF := Blk.new w 24 (fsC mi mb nx (.slice a l.length ca))
  have hB := alloc_below w (.cells (fsC mi mb nx (.slice a l.length ca)) 24)
  have nV := hv.below hB
  have HV := Lib.hid hv
  clear hv
  cases hf : fit13B mi mb nx l base p []
  · go_enter Tryz.func3, Tryz.ntmps3
    go_wp2_with fail; refine (awake13 _).mono ?_; rintro e w1 ⟨rfl, b⟩
    (replace bF := bF.next b; replace nV := nV.below b; replace hB := hB.trans (b.mono hB.size))
    obtain ⟨⟨p0, p1, p2, p3⟩, _⟩ := bF.four
    go_wp2_with fail; refine (fits13_any mi mb nx l base p [] _ _ nV).mono ?_; rintro e w2 ⟨rfl, b2⟩
    (replace bF := bF.next b2; replace nV := nV.below b2; replace hB := hB.trans (b2.mono hB.size))
    rw [hf]
    go_wp2_with fail; refine (awake13 _).mono ?_; rintro e w3 ⟨rfl, b3⟩
    go_wp2
    go_ret
    exact ⟨rfl, hB.trans (b3.mono hB.size)⟩
  obtain ⟨hok, hsh, hdl⟩ := fit13_parts hf
  obtain ⟨hbl, hpl⟩ := short13 hsh
  have hda : ∀ i, (getN l i).data.length ≤ 5000 := fun i => (calm_get (calm_of hok) i).2.2.1
  have HS1 := Lib.hid (fun W hW => Stat_any mi mb nx l base p fo (.slice a l.length ca) W hW (ok_s hok) (by omega) (by omega))
  have HS2 := Lib.hid (fun W hW => refStat_any mi mb nx l base p fo (.slice a l.length ca) W hW hda (by omega) (by omega))
  have HR1 := Lib.hid (fun W hW => Read13_any mi mb nx l base p (.slice a l.length ca) W hW (ok_s hok) (by omega) (by omega))
  have HR2 := Lib.hid (fun W hW => refRead13_any mi mb nx l base p (.slice a l.length ca) W hW hda (by omega) (by omega))
  have HL1 := Lib.hid (fun W hW => Readlink13_any mi mb nx l base p (.slice a l.length ca) W hW (ok_s hok) (by omega) (by omega))
  have HL2 := Lib.hid (fun W hW => refReadlink13_any mi mb nx l base p (.slice a l.length ca) W hW hda (by omega) (by omega))
  have HE := Lib.hid (stat_ents HV.out base p fo)
  have hxs := stat_slice HV.out base p fo
  generalize statF l base p fo = X at *
  generalize readF l base p = R at *
  generalize rdlnkF l base p = K at *
  obtain ⟨⟨xi, xk, xl, xd, xp, xe, xn⟩, xq⟩ := X
  obtain ⟨rd, rq⟩ := R
  obtain ⟨kd, kq⟩ := K
  dsimp only at hxs
  obtain ⟨ax, nxe, cx, rfl⟩ := hxs
  go_enter Tryz.func3, Tryz.ntmps3
  go_wp2_with fail; refine (awake13 _).mono ?_; rintro e w1 ⟨rfl, b⟩
  (replace bF := bF.next b; replace nV := nV.below b; replace hB := hB.trans (b.mono hB.size))
  obtain ⟨⟨p0, p1, p2, p3⟩, _⟩ := bF.four
  go_wp2_with fail; refine (fits13_any mi mb nx l base p [] _ _ nV).mono ?_; rintro e w2 ⟨rfl, b2⟩
  (replace bF := bF.next b2; replace nV := nV.below b2; replace hB := hB.trans (b2.mono hB.size))
  rw [hf]
  clear b b2 p0 p1 p2 p3
  obtain ⟨⟨p0, p1, p2, p3⟩, _⟩ := bF.four
  go_wp2_with fail
  refine (HS1.out _ nV).mono ?_
  rintro e w3 ⟨rfl, b3⟩
  have s3 := alloc_below w3 (.cells (ndC ⟨xi, xk, xl, xd, xp, .slice ax nxe cx, xn⟩) 29)
  have bX := Blk.new w3 29 (ndC ⟨xi, xk, xl, xd, xp, .slice ax nxe cx, xn⟩)
  have b5 := b3.trans (s3.mono b3.size)
  (replace bF := bF.next b5; replace nV := nV.below b5; replace hB := hB.trans (b5.mono hB.size))
  clear b3 s3 b5 p0 p1 p2 p3 HS1
  obtain ⟨⟨p0, p1, p2, p3⟩, _⟩ := bF.four
  go_wp2_with fail
  refine (HS2.out _ nV).mono ?_
  rintro e w4 ⟨rfl, b3⟩
  have s3 := alloc_below w4 (.cells (ndC ⟨xi, xk, xl, xd, xp, .slice ax nxe cx, xn⟩) 29)
  have bY := Blk.new w4 29 (ndC ⟨xi, xk, xl, xd, xp, .slice ax nxe cx, xn⟩)
  have b5 := b3.trans (s3.mono b3.size)
  replace bX := bX.next b5
  (replace bF := bF.next b5; replace nV := nV.below b5; replace hB := hB.trans (b5.mono hB.size))
  clear b3 s3 b5 p0 p1 p2 p3 HS2
  obtain ⟨⟨p0, p1, p2, p3⟩, _⟩ := bF.four
  go_wp2_with fail
  refine (HR1.out _ nV).mono ?_
  rintro e w5 ⟨rfl, b3⟩
  replace bX := bX.next b3
  replace bY := bY.next b3
  (replace bF := bF.next b3; replace nV := nV.below b3; replace hB := hB.trans (b3.mono hB.size))
  clear b3 p0 p1 p2 p3 HR1
  obtain ⟨⟨p0, p1, p2, p3⟩, _⟩ := bF.four
  go_wp2_with fail
  refine (HR2.out _ nV).mono ?_
  rintro e w6 ⟨rfl, b3⟩
  replace bX := bX.next b3
  replace bY := bY.next b3
  (replace bF := bF.next b3; replace nV := nV.below b3; replace hB := hB.trans (b3.mono hB.size))
  clear b3 p0 p1 p2 p3 HR2
  obtain ⟨⟨p0, p1, p2, p3⟩, _⟩ := bF.four
  go_wp2_with fail
  refine (HL1.out _ nV).mono ?_
  rintro e w7 ⟨rfl, b3⟩
  replace bX := bX.next b3
  replace bY := bY.next b3
  (replace bF := bF.next b3; replace nV := nV.below b3; replace hB := hB.trans (b3.mono hB.size))
  clear b3 p0 p1 p2 p3 HL1
  obtain ⟨⟨p0, p1, p2, p3⟩, _⟩ := bF.four
  go_wp2_with fail
  refine (HL2.out _ nV).mono ?_
  rintro e w8 ⟨rfl, b3⟩
  replace bX := bX.next b3
  replace bY := bY.next b3
  (replace bF := bF.next b3; replace nV := nV.below b3; replace hB := hB.trans (b3.mono hB.size))
  clear b3 p0 p1 p2 p3 HL2
  have hE := HE.out.below hB
  have hO := refOne_any ⟨xi, xk, xl, xd, xp, .slice ax nxe cx, xn⟩ ⟨xi, xk, xl, xd, xp, .slice ax nxe cx, xn⟩ _ hE hE
  rw [oneB_refl] at hO
  obtain ⟨⟨x0, x1, x2, x3, x4, x5⟩, _⟩ := bX.six
  obtain ⟨⟨y0, y1, y2, y3, y4, y5⟩, _⟩ := bY.six
  dsimp only at x0 x1 x2 x3 x4 x5 y0 y1 y2 y3 y4 y5
  go_wp2_with fail
  refine hO.mono ?_
  rintro e w9 ⟨rfl, b9⟩
  go_wp2
  go_ret
  exact ⟨rfl, hB.trans (b9.mono hB.size)⟩

namespace LDataReads
set_option maxRecDepth 100000 in
theorem lifted (os : Os) (started : os.Started) (H : Type) (enc : TypeId × Value → H) :
    ReturnsInHanded {} Tryz.checked os 3 .any (Rows.dataReadsSpec.pre6 enc Tryz.prog Tryz.f3 Rows.dataReadsRow.domain false) (Rows.dataReadsSpec.post enc Tryz.prog Tryz.f3 false true false false) := by
  refine returnsInHanded_of_change (C := Tryz.checked) (by kernel_rfl) started (by kernel_rfl) Tryz.func3
    (ChangeSpec.witness6 (enc := enc) (C := Tryz.checked) false ⟨#[], #[.agg #[.int .i64 0, .int .i64 0, .int .i64 0, .slice none 0 0], .string ByteArray.empty, .string ByteArray.empty, .bool false], []⟩ 8 (by kernel_rfl) (by kernel_rfl) (by kernel_rfl) (by kernel_rfl)) ?_
  intro W base args ds gs before hval0 hW hcnd _
  have hval : ∀ (j : Nat) t v, Tryz.f3.params[j]? = some t → args[j]? = some v → Value.okWide Tryz.prog W .any base t v := hval0
  have hW' := hW
  obtain ⟨p, q, hA0, hV, rfl, hfz, hnd⟩ := hW
  have hA : DataW.TrodAll enc Tryz.prog W 0 (fun _ => true) true Tryz.f3.params.toList args.toList ds p := hA0
  rw [Tryz.params3] at hA hval
  obtain ⟨v0, vs0, d0, ds0, p0, q0, hargs, rfl, rfl, k0, r0⟩ := trodAll_cons hA
  obtain ⟨v1, vs1, d1, ds1, p1, q1, rfl, rfl, rfl, k1, r1⟩ := trodAll_cons r0
  obtain ⟨v2, vs2, d2, ds2, p2, q2, rfl, rfl, rfl, k2, r2⟩ := trodAll_cons r1
  obtain ⟨v3, vs3, d3, ds3, p3, q3, rfl, rfl, rfl, k3, r3⟩ := trodAll_cons r2
  obtain ⟨rfl, rfl, rfl⟩ := trodAll_nil r3
  obtain rfl : args = #[v0, v1, v2, v3] := by cases args; simp_all
  obtain ⟨rfl, rfl⟩ := trodVars_none hV
  have ok0 := hval 0 24 v0 rfl rfl
  have ok1 := hval 1 9 v1 rfl rfl
  have ok2 := hval 2 9 v2 rfl rfl
  have ok3 := hval 3 4 v3 rfl rfl
  have lt0 : ∀ x ∈ p0, x.block < W.heap.size := by obtain ⟨m, hm⟩ := k0; exact DataW.trod_lt m _ _ _ hm
  have lt1 : ∀ x ∈ p1, x.block < W.heap.size := by obtain ⟨m, hm⟩ := k1; exact DataW.trod_lt m _ _ _ hm
  have lt2 : ∀ x ∈ p2, x.block < W.heap.size := by obtain ⟨m, hm⟩ := k2; exact DataW.trod_lt m _ _ _ hm
  have lt3 : ∀ x ∈ p3, x.block < W.heap.size := by obtain ⟨m, hm⟩ := k3; exact DataW.trod_lt m _ _ _ hm
  have C : Calls Tryz.prog 3 #[v0, v1, v2, v3] W fun e w' => e = .returned (.bool true) ∧ Below W.heap.size W w' := by
    clear hA0 hval0 hval hW' hcnd hV hfz hnd
    obtain ⟨mi, mb, nx, x, l, rfl, hx⟩ := fs_of_trod k0 ok0
    obtain ⟨s1, rfl, rfl, rfl, hs1⟩ := open_string Tryz.underlying9 ok1 k1
    obtain ⟨s2, rfl, rfl, rfl, hs2⟩ := open_string Tryz.underlying9 ok2 k2
    obtain ⟨bb, rfl, rfl, rfl⟩ := open_bool Tryz.underlying4 ok3 k3
    rw [str_eta s1, str_eta s2]
    exact lawReads13 mi mb nx l _ _ bb x W hx
  refine C.mono fun e W' ⟨he, bel⟩ => ?_
  subst he
  exact ⟨_, rfl, _, _, _, [], _, [], hW', trodAll_mk1 (shut_bool Tryz.underlying4 _), (trodAll_cons_mk (Below.trod laidOut (by kernel_rfl) (of_decide_eq_true (by kernel_rfl)) k0 bel lt0) (trodAll_cons_mk (Below.trod laidOut (by kernel_rfl) (of_decide_eq_true (by kernel_rfl)) k1 bel lt1) (trodAll_cons_mk (Below.trod laidOut (by kernel_rfl) (of_decide_eq_true (by kernel_rfl)) k2 bel lt2) (trodAll_cons_mk (Below.trod laidOut (by kernel_rfl) (of_decide_eq_true (by kernel_rfl)) k3 bel lt3) trodAll_mk0)))), rfl, bel.frame _, fun h => by cases h⟩
theorem proved : Rows.DataReadsSaid :=
  OpenClaim.holds_of_wide 3 Tryz.f3 rfl rfl rfl rfl rfl rfl rfl ⟨rfl, rfl, rfl, rfl, rfl⟩ rfl rfl rfl rfl rfl (by kernel_rfl) Tryz.func3 (by kernel_rfl)
    (of_decide_eq_true (by kernel_rfl)) (by unfold Func.isWrapper; first | (rw [if_pos (by decide +kernel)]; kernel_rfl) | (rw [if_neg (by decide +kernel)]; exact ⟨rfl, rfl⟩))
    (fun os started H enc _ => lifted os started H enc)
#print axioms proved
end LDataReads
end Go.Proofs.YtkipplkaffpkjaaGreat
