import Derived.Test.YtoejjdebfjepaaaGreatQLawBase14
import Derived.Test.YtoejjdebfjepaaaGreatQWalkC14
set_option linter.unusedVariables false
set_option linter.unusedSimpArgs false
/- For every sound file system, and a base and paths that are short: package move renames as the document does (no condition). -/
set_option linter.unusedVariables false
set_option linter.unusedSimpArgs false
namespace Go.Proofs.YtoejjdebfjepaaaGreat
open Go.ChangeShapes Go.WideShapes Go.ChangeAt Go.RowKit
open Go.ChangeMaps (open_string shut_string)
set_option linter.unusedVariables false

set_option maxHeartbeats 8000000 in
set_option maxRecDepth 100000 in
theorem lawRenames14 (mi mb nx : Int) (l : List Nd) (base p q : List UInt8) (v : Value) (w : World) (hv : Nds w v l) :
    Calls Tryz.prog 3 #[.agg (fsC mi mb nx v), .string ⟨base.toArray⟩, .string ⟨p.toArray⟩, .string ⟨q.toArray⟩] w fun e w' => e = .returned (.bool true) ∧ Below w.heap.size w w' := by
  obtain ⟨a, ca, rfl⟩ := nds_slice hv
  have bF := Blk.new w 24 (fsC mi mb nx (.slice a l.length ca))
  have hB := alloc_below w (.cells (fsC mi mb nx (.slice a l.length ca)) 24)
  have nV := hv.below hB
  clear hv
  cases hf : fit14B mi mb nx l base p q
  · go_enter Tryz.func3, Tryz.ntmps3
    go_wp2_with fail; refine (awake14 _).mono ?_; rintro e w1 ⟨rfl, b⟩
    (replace bF := bF.next b; replace nV := nV.below b; replace hB := hB.trans (b.mono hB.size))
    obtain ⟨⟨p0, p1, p2, p3⟩, _⟩ := bF.four
    go_wp2_with fail; refine (fits14_any mi mb nx l base p q _ _ nV).mono ?_; rintro e w2 ⟨rfl, b2⟩
    (replace bF := bF.next b2; replace nV := nV.below b2; replace hB := hB.trans (b2.mono hB.size))
    rw [hf]
    go_wp2_with fail; refine (awake14 _).mono ?_; rintro e w3 ⟨rfl, b3⟩
    go_wp2
    go_ret
    exact ⟨rfl, hB.trans (b3.mono hB.size)⟩
  obtain ⟨hok, hsh, hsh2⟩ := fit14_parts hf
  obtain ⟨hbl, hpl⟩ := short14 hsh
  have hql := (short14 hsh2).2
  have hC := fun W hW => Rename_any mi mb nx l base p q (.slice a l.length ca) W hW (ok_s hok) (by omega) (by omega) (by omega)
  have hR := fun W hW => refRename_any mi mb nx l base p q (.slice a l.length ca) W hW (fit_of hok) (by omega) (by omega) (by omega) (by have := seek_short l base q false; omega) (links_fit14 hok) (fun h0 hne => ren_mvok hok h0 hne)
  have hK := fun a b c a' b' c' => renameF_key l base p q a b c a' b' c'
  generalize renameF l base p q = R at *
  go_enter Tryz.func3, Tryz.ntmps3
  go_wp2_with fail; refine (awake14 _).mono ?_; rintro e w1 ⟨rfl, b⟩
  (replace bF := bF.next b; replace nV := nV.below b; replace hB := hB.trans (b.mono hB.size))
  obtain ⟨⟨p0, p1, p2, p3⟩, _⟩ := bF.four
  go_wp2_with fail; refine (fits14_any mi mb nx l base p q _ _ nV).mono ?_; rintro e w2 ⟨rfl, b2⟩
  (replace bF := bF.next b2; replace nV := nV.below b2; replace hB := hB.trans (b2.mono hB.size))
  rw [hf]
  clear b b2 p0 p1 p2 p3
  obtain ⟨⟨p0, p1, p2, p3⟩, _⟩ := bF.four
  go_wp2_with fail; refine (hC _ nV).mono ?_; rintro e w3 ⟨y1, e1, i1, j1, rfl, hM1, b3⟩
  have n1 := hM1.now nV b3
  have hk := fun a' b' c' => hK e1 i1 j1 a' b' c'
  generalize R e1 i1 j1 = Z1 at *
  obtain ⟨L1, q1⟩ := Z1
  dsimp only at n1 hk
  obtain ⟨a1, c1, rfl⟩ := nds_slice n1
  have s3 := alloc_below w3 (.cells (fsC mi mb nx (.slice a1 L1.length c1)) 24)
  have bA := Blk.new w3 24 (fsC mi mb nx (.slice a1 L1.length c1))
  replace n1 := n1.below s3
  (replace bF := bF.next b3; replace nV := nV.below b3; replace hB := hB.trans (b3.mono hB.size))
  (replace bF := bF.next s3; replace nV := nV.below s3; replace hB := hB.trans (s3.mono hB.size))
  clear b3 s3 p0 p1 p2 p3 hM1 hC hK
  obtain ⟨⟨p0, p1, p2, p3⟩, _⟩ := bF.four
  go_wp2_with fail; refine (hR _ nV).mono ?_; rintro e w4 ⟨y2, e2, i2, j2, rfl, hM2, b4⟩
  have n2 := hM2.now nV b4
  replace hk := hk e2 i2 j2
  generalize R e2 i2 j2 = Z2 at *
  obtain ⟨L2, q2⟩ := Z2
  dsimp only at n2 hk
  obtain ⟨a2, c2, rfl⟩ := nds_slice n2
  have s4 := alloc_below w4 (.cells (fsC mi mb nx (.slice a2 L2.length c2)) 24)
  have bC := Blk.new w4 24 (fsC mi mb nx (.slice a2 L2.length c2))
  replace n2 := n2.below s4
  replace n1 := (n1.below b4).below s4
  replace bA := (bA.next b4).next s4
  (replace bF := bF.next b4; replace nV := nV.below b4; replace hB := hB.trans (b4.mono hB.size))
  (replace bF := bF.next s4; replace nV := nV.below s4; replace hB := hB.trans (s4.mono hB.size))
  clear b4 s4 p0 p1 p2 p3 hM2 hR
  obtain ⟨rfl, hO⟩ := hk
  have hT := tab_eq14 (mi := mi) (mb := mb) (nx := nx) hO
  obtain ⟨⟨f0, f1, f2, f3⟩, _⟩ := bA.four
  obtain ⟨⟨g0, g1, g2, g3⟩, _⟩ := bC.four
  go_wp2_with fail; refine (refTab_any mi mb nx mi mb nx L1 L2 _ _ _ n1 n2).mono ?_; rintro e w5 ⟨rfl, b5⟩
  rw [hT]
  go_wp2
  go_ret
  exact ⟨rfl, hB.trans (b5.mono hB.size)⟩

namespace LMoveRenames
set_option maxRecDepth 100000 in
theorem lifted (os : Os) (started : os.Started) (H : Type) (enc : TypeId × Value → H) :
    ReturnsInHanded {} Tryz.checked os 3 .any (Rows.moveRenamesSpec.pre6 enc Tryz.prog Tryz.f3 Rows.moveRenamesRow.domain false) (Rows.moveRenamesSpec.post enc Tryz.prog Tryz.f3 false true false false) := by
  refine returnsInHanded_of_change (C := Tryz.checked) (by kernel_rfl) started (by kernel_rfl) Tryz.func3
    (ChangeSpec.witness6 (enc := enc) (C := Tryz.checked) false ⟨#[], #[.agg #[.int .i64 0, .int .i64 0, .int .i64 0, .slice none 0 0], .string ByteArray.empty, .string ByteArray.empty, .string ByteArray.empty], []⟩ 8 (by kernel_rfl) (by kernel_rfl) (by kernel_rfl) (by kernel_rfl)) ?_
  intro W base args ds gs before hval0 hW hcnd _
  have hval : ∀ (j : Nat) t v, Tryz.f3.params[j]? = some t → args[j]? = some v → Value.okWide Tryz.prog W .any base t v := hval0
  have hW' := hW
  obtain ⟨p, q, hA0, hV, rfl, hfz, hnd⟩ := hW
  have hA : DataW.TrodAll enc Tryz.prog W 0 (fun _ => true) true Tryz.f3.params.toList args.toList ds p := hA0
  rw [Tryz.params3] at hA hval
  obtain ⟨v0, vs0, d0, ds0, p0, q0, hargs, rfl, rfl, k0, r0⟩ := trodAll_cons hA
  obtain ⟨v1, vs1, d1, ds1, p1, q1, rfl, rfl, rfl, k1, r1⟩ := trodAll_cons r0
  obtain ⟨v2, vs2, d2, ds2, p2, q2, rfl, rfl, rfl, k2, r2⟩ := trodAll_cons r1
  obtain ⟨v3, vs3, d3, ds3, p3, q3, rfl, rfl, rfl, k3, r3⟩ := trodAll_cons r2
  obtain ⟨rfl, rfl, rfl⟩ := trodAll_nil r3
  obtain rfl : args = #[v0, v1, v2, v3] := by cases args; simp_all
  obtain ⟨rfl, rfl⟩ := trodVars_none hV
  have ok0 := hval 0 24 v0 rfl rfl
  have ok1 := hval 1 9 v1 rfl rfl
  have ok2 := hval 2 9 v2 rfl rfl
  have ok3 := hval 3 9 v3 rfl rfl
  have lt0 : ∀ x ∈ p0, x.block < W.heap.size := by obtain ⟨m, hm⟩ := k0; exact DataW.trod_lt m _ _ _ hm
  have lt1 : ∀ x ∈ p1, x.block < W.heap.size := by obtain ⟨m, hm⟩ := k1; exact DataW.trod_lt m _ _ _ hm
  have lt2 : ∀ x ∈ p2, x.block < W.heap.size := by obtain ⟨m, hm⟩ := k2; exact DataW.trod_lt m _ _ _ hm
  have lt3 : ∀ x ∈ p3, x.block < W.heap.size := by obtain ⟨m, hm⟩ := k3; exact DataW.trod_lt m _ _ _ hm
  have C : Calls Tryz.prog 3 #[v0, v1, v2, v3] W fun e w' => e = .returned (.bool true) ∧ Below W.heap.size W w' := by
    clear hA0 hval0 hval hW' hcnd hV hfz hnd
    obtain ⟨mi, mb, nx, x, l, rfl, hx⟩ := fs_of_trod k0 ok0
    obtain ⟨s0, rfl, rfl, rfl, hs0⟩ := open_string Tryz.underlying9 ok1 k1
    obtain ⟨s1, rfl, rfl, rfl, hs1⟩ := open_string Tryz.underlying9 ok2 k2
    obtain ⟨s2, rfl, rfl, rfl, hs2⟩ := open_string Tryz.underlying9 ok3 k3
    rw [str_eta s0, str_eta s1, str_eta s2]
    exact lawRenames14 mi mb nx l _ _ _ x W hx
  refine C.mono fun e W' ⟨he, bel⟩ => ?_
  subst he
  exact ⟨_, rfl, _, _, _, [], _, [], hW', trodAll_mk1 (shut_bool Tryz.underlying4 _), (trodAll_cons_mk (Below.trod laidOut (by kernel_rfl) (of_decide_eq_true (by kernel_rfl)) k0 bel lt0) (trodAll_cons_mk (Below.trod laidOut (by kernel_rfl) (of_decide_eq_true (by kernel_rfl)) k1 bel lt1) (trodAll_cons_mk (Below.trod laidOut (by kernel_rfl) (of_decide_eq_true (by kernel_rfl)) k2 bel lt2) (trodAll_cons_mk (Below.trod laidOut (by kernel_rfl) (of_decide_eq_true (by kernel_rfl)) k3 bel lt3) trodAll_mk0)))), rfl, bel.frame _, fun h => by cases h⟩
theorem proved : Rows.MoveRenamesSaid :=
  OpenClaim.holds_of_wide 3 Tryz.f3 rfl rfl rfl rfl rfl rfl rfl ⟨rfl, rfl, rfl, rfl, rfl⟩ rfl rfl rfl rfl rfl (by kernel_rfl) Tryz.func3 (by kernel_rfl)
    (of_decide_eq_true (by kernel_rfl)) (by unfold Func.isWrapper; first | (rw [if_pos (by decide +kernel)]; kernel_rfl) | (rw [if_neg (by decide +kernel)]; exact ⟨rfl, rfl⟩))
    (fun os started H enc _ => lifted os started H enc)
#print axioms proved
end LMoveRenames
end Go.Proofs.YtoejjdebfjepaaaGreat
