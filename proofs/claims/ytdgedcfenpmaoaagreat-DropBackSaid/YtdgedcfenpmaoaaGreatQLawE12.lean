import Derived.Test.YtdgedcfenpmaoaaGreatQMLawBase12
import Derived.Test.YtdgedcfenpmaoaaGreatQMWalkH04
set_option linter.unusedVariables false
set_option linter.unusedSimpArgs false
/- For every sound file system, and a base and paths that are short: a name that was given and is taken away again leaves the file system as it was; both names lead to one inode (no condition). -/
set_option linter.unusedVariables false
set_option linter.unusedSimpArgs false
namespace Go.Proofs.YtdgedcfenpmaoaaGreat
open Go.ChangeShapes Go.WideShapes Go.ChangeAt Go.RowKit
open Go.ChangeMaps (open_string shut_string)
set_option linter.unusedVariables false

set_option maxHeartbeats 8000000 in
set_option maxRecDepth 100000 in
theorem lawBack12 (mi mb nx : Int) (l : List Nd) (base p q : List UInt8) (v : Value) (w : World) (hv : Nds w v l) :
    Calls Tryz.prog 7 #[.agg (fsC mi mb nx v), .string ⟨base.toArray⟩, .string ⟨p.toArray⟩, .string ⟨q.toArray⟩] w fun e w' => e = .returned (.bool true) ∧ Below w.heap.size w w' := by
  obtain ⟨a, ca, rfl⟩ := nds_slice hv
  have bF := Blk.new w 24 (fsC mi mb nx (.slice a l.length ca))
  have hB := alloc_below w (.cells (fsC mi mb nx (.slice a l.length ca)) 24)
  have nV := hv.below hB
  have HV := Lib.hid hv
  clear hv
  cases hf : fit12B mi mb nx l base p q
  · go_enter Tryz.func7, Tryz.ntmps7
    go_wp2_with fail; refine (awake12 _).mono ?_; rintro e w1 ⟨rfl, b⟩
    (replace bF := bF.next b; replace nV := nV.below b; replace hB := hB.trans (b.mono hB.size))
    obtain ⟨⟨p0, p1, p2, p3⟩, _⟩ := bF.four
    go_wp2_with fail; refine (fits12_any mi mb nx l base p q _ _ nV).mono ?_; rintro e w2 ⟨rfl, b2⟩
    (replace bF := bF.next b2; replace nV := nV.below b2; replace hB := hB.trans (b2.mono hB.size))
    rw [hf]
    go_wp2_with fail; refine (awake12 _).mono ?_; rintro e w3 ⟨rfl, b3⟩
    go_wp2
    go_ret
    exact ⟨rfl, hB.trans (b3.mono hB.size)⟩
  obtain ⟨hok, hsh, hsh2⟩ := fit12_parts hf
  obtain ⟨hbl, hpl⟩ := short12 hsh
  have hql := (short12 hsh2).2
  have hC := fun W hW => Link_any mi mb nx l base p q (.slice a l.length ca) W hW (ok_s hok) (by omega) (by omega) (by omega)
  have hT := fun ev => link_cut (ev := ev) (base := base) (src := p) (dst := q) hok
  have hK := fun ev (h : (linkF l base p q ev).2 = 0) e2 => link_back (ev := ev) hok h e2
  generalize linkF l base p q = R at *
  go_enter Tryz.func7, Tryz.ntmps7
  go_wp2_with fail; refine (awake12 _).mono ?_; rintro e w1 ⟨rfl, b⟩
  (replace bF := bF.next b; replace nV := nV.below b; replace hB := hB.trans (b.mono hB.size))
  obtain ⟨⟨p0, p1, p2, p3⟩, _⟩ := bF.four
  go_wp2_with fail; refine (fits12_any mi mb nx l base p q _ _ nV).mono ?_; rintro e w2 ⟨rfl, b2⟩
  (replace bF := bF.next b2; replace nV := nV.below b2; replace hB := hB.trans (b2.mono hB.size))
  rw [hf]
  clear b b2 p0 p1 p2 p3
  obtain ⟨⟨p0, p1, p2, p3⟩, _⟩ := bF.four
  go_wp2_with fail; refine (hC _ nV).mono ?_; rintro e w3 ⟨y1, e1, rfl, hM1, b3⟩
  have n1 := hM1.now nV b3
  replace hT := hT e1
  replace hK := hK e1
  generalize R e1 = Z1 at *
  obtain ⟨L1, q1⟩ := Z1
  dsimp only at n1 hK
  obtain ⟨a1, c1, rfl⟩ := nds_slice n1
  have s3 := alloc_below w3 (.cells (fsC mi mb nx (.slice a1 L1.length c1)) 24)
  have bA := Blk.new w3 24 (fsC mi mb nx (.slice a1 L1.length c1))
  replace n1 := n1.below s3
  (replace bF := bF.next b3; replace nV := nV.below b3; replace hB := hB.trans (b3.mono hB.size))
  (replace bF := bF.next s3; replace nV := nV.below s3; replace hB := hB.trans (s3.mono hB.size))
  clear b3 s3 p0 p1 p2 p3 hM1 hC
  by_cases hq1 : q1 = 0
  · subst hq1
    obtain ⟨g1, g2, _⟩ := hT.good rfl
    dsimp only at g1 g2
    have hS1 := slim_ok g1 g2
    have hU := fun W hW => Unlink_any mi mb nx L1 base q (.slice a1 L1.length c1) W hW hS1 (by omega) (by omega)
    have hk := fun e2 => hK rfl e2
    have hsa := fun W hW => refSeek_any mi mb nx L1 base p false (.slice a1 L1.length c1) W hW (fun i => (calm_get hS1.calm i).2.2.1) (by omega) (by omega)
    have hsb := fun W hW => refSeek_any mi mb nx L1 base q false (.slice a1 L1.length c1) W hW (fun i => (calm_get hS1.calm i).2.2.1) (by omega) (by omega)
    generalize unlinkF L1 base q = R2 at *
    generalize seekP L1 base p false = S1 at *
    generalize seekP L1 base q false = S2 at *
    obtain ⟨⟨sd, sn, si⟩, se⟩ := S1
    obtain ⟨⟨td, tn, ti⟩, te⟩ := S2
    dsimp only at hk hsa hsb
    obtain ⟨k1, k2, _⟩ := hk (.slice none 0 0)
    subst k1 k2
    replace hk := fun e2 => (hk e2).2.2
    clear hT hK g1 g2 hS1
    obtain ⟨⟨r0, r1, r2, r3⟩, _⟩ := bA.four
    go_wp2_with fail
    refine (hsa _ n1).mono ?_
    rintro e w4 ⟨rfl, b4⟩
    have s4 := alloc_below w4 (.cells (spC ⟨sd, sn, si⟩) 37)
    have bS := Blk.new w4 37 (spC ⟨sd, sn, si⟩)
    have b5 := b4.trans (s4.mono b4.size)
    replace n1 := n1.below b5
    replace bA := bA.next b5
    (replace bF := bF.next b5; replace nV := nV.below b5; replace hB := hB.trans (b5.mono hB.size))
    clear b4 s4 b5 r0 r1 r2 r3 hsa
    obtain ⟨⟨r0, r1, r2, r3⟩, _⟩ := bA.four
    go_wp2_with fail
    refine (hsb _ n1).mono ?_
    rintro e w5 ⟨rfl, b4⟩
    have s4 := alloc_below w5 (.cells (spC ⟨td, tn, si⟩) 37)
    have bT := Blk.new w5 37 (spC ⟨td, tn, si⟩)
    have b5 := b4.trans (s4.mono b4.size)
    replace n1 := n1.below b5
    replace bA := bA.next b5
    replace bS := bS.next b5
    (replace bF := bF.next b5; replace nV := nV.below b5; replace hB := hB.trans (b5.mono hB.size))
    clear b4 s4 b5 r0 r1 r2 r3 hsb
    obtain ⟨⟨r0, r1, r2, r3⟩, _⟩ := bA.four
    go_wp2_with fail
    refine (hU _ n1).mono ?_
    rintro e w6 ⟨y2, e2, rfl, hM2, b4⟩
    have n2 := hM2.now n1 b4
    obtain ⟨hk1, hk2⟩ := hk e2
    generalize R2 e2 = Z2 at *
    obtain ⟨L2, q2⟩ := Z2
    dsimp only at n2 hk1 hk2
    subst hk1
    obtain ⟨a2, c2, rfl⟩ := nds_slice n2
    have s4 := alloc_below w6 (.cells (fsC mi mb nx (.slice a2 L2.length c2)) 24)
    have bC := Blk.new w6 24 (fsC mi mb nx (.slice a2 L2.length c2))
    replace n2 := n2.below s4
    have b5 := b4.trans (s4.mono b4.size)
    replace bS := bS.next b5
    replace bT := bT.next b5
    (replace bF := bF.next b5; replace nV := nV.below b5; replace hB := hB.trans (b5.mono hB.size))
    clear b4 s4 b5 r0 r1 r2 r3 hU hk hM2 n1 bA
    have hTT := refTab_any mi mb nx mi mb nx L2 l _ _ _ n2 nV
    rw [tab_same hk2] at hTT
    obtain ⟨⟨r0, r1, r2, r3⟩, _⟩ := bC.four
    obtain ⟨⟨p0, p1, p2, p3⟩, _⟩ := bF.four
    go_wp2_with fail
    refine hTT.mono ?_
    rintro e w7 ⟨rfl, b7⟩
    clear p0 p1 p2 p3 r0 r1 r2 r3 hTT
    obtain ⟨⟨s0, s1, s2⟩, _⟩ := (bS.next b7).three
    obtain ⟨⟨t0, t1, t2⟩, _⟩ := (bT.next b7).three
    dsimp only at s0 s1 s2 t0 t1 t2
    by_cases hse : se = 0
    · subst hse
      go_wp2
      go_ret
      exact ⟨rfl, hB.trans (b7.mono hB.size)⟩
    · have hse2 : (se != 0) = true := by simpa using hse
      go_wp2
      go_ret
      exact ⟨rfl, hB.trans (b7.mono hB.size)⟩
  · have hq2 : (q1 != 0) = true := by simpa using hq1
    go_wp2
    go_ret
    exact ⟨rfl, hB⟩

namespace LDropBack
set_option maxRecDepth 100000 in
theorem lifted (os : Os) (started : os.Started) (H : Type) (enc : TypeId × Value → H) :
    ReturnsInHanded {} Tryz.checked os 7 .any (Rows.dropBackSpec.pre6 enc Tryz.prog Tryz.f7 Rows.dropBackRow.domain false) (Rows.dropBackSpec.post enc Tryz.prog Tryz.f7 false true false false) := by
  refine returnsInHanded_of_change (C := Tryz.checked) (by kernel_rfl) started (by kernel_rfl) Tryz.func7
    (ChangeSpec.witness6 (enc := enc) (C := Tryz.checked) false ⟨#[], #[.agg #[.int .i64 0, .int .i64 0, .int .i64 0, .slice none 0 0], .string ByteArray.empty, .string ByteArray.empty, .string ByteArray.empty], []⟩ 8 (by kernel_rfl) (by kernel_rfl) (by kernel_rfl) (by kernel_rfl)) ?_
  intro W base args ds gs before hval0 hW hcnd _
  have hval : ∀ (j : Nat) t v, Tryz.f7.params[j]? = some t → args[j]? = some v → Value.okWide Tryz.prog W .any base t v := hval0
  have hW' := hW
  obtain ⟨p, q, hA0, hV, rfl, hfz, hnd⟩ := hW
  have hA : DataW.TrodAll enc Tryz.prog W 0 (fun _ => true) true Tryz.f7.params.toList args.toList ds p := hA0
  rw [Tryz.params7] at hA hval
  obtain ⟨v0, vs0, d0, ds0, p0, q0, hargs, rfl, rfl, k0, r0⟩ := trodAll_cons hA
  obtain ⟨v1, vs1, d1, ds1, p1, q1, rfl, rfl, rfl, k1, r1⟩ := trodAll_cons r0
  obtain ⟨v2, vs2, d2, ds2, p2, q2, rfl, rfl, rfl, k2, r2⟩ := trodAll_cons r1
  obtain ⟨v3, vs3, d3, ds3, p3, q3, rfl, rfl, rfl, k3, r3⟩ := trodAll_cons r2
  obtain ⟨rfl, rfl, rfl⟩ := trodAll_nil r3
  obtain rfl : args = #[v0, v1, v2, v3] := by cases args; simp_all
  obtain ⟨rfl, rfl⟩ := trodVars_none hV
  have ok0 := hval 0 24 v0 rfl rfl
  have ok1 := hval 1 9 v1 rfl rfl
  have ok2 := hval 2 9 v2 rfl rfl
  have ok3 := hval 3 9 v3 rfl rfl
  have lt0 : ∀ x ∈ p0, x.block < W.heap.size := by obtain ⟨m, hm⟩ := k0; exact DataW.trod_lt m _ _ _ hm
  have lt1 : ∀ x ∈ p1, x.block < W.heap.size := by obtain ⟨m, hm⟩ := k1; exact DataW.trod_lt m _ _ _ hm
  have lt2 : ∀ x ∈ p2, x.block < W.heap.size := by obtain ⟨m, hm⟩ := k2; exact DataW.trod_lt m _ _ _ hm
  have lt3 : ∀ x ∈ p3, x.block < W.heap.size := by obtain ⟨m, hm⟩ := k3; exact DataW.trod_lt m _ _ _ hm
  have C : Calls Tryz.prog 7 #[v0, v1, v2, v3] W fun e w' => e = .returned (.bool true) ∧ Below W.heap.size W w' := by
    clear hA0 hval0 hval hW' hcnd hV hfz hnd
    obtain ⟨mi, mb, nx, x, l, rfl, hx⟩ := fs_of_trod k0 ok0
    obtain ⟨s1, rfl, rfl, rfl, hs1⟩ := open_string Tryz.underlying9 ok1 k1
    obtain ⟨s2, rfl, rfl, rfl, hs2⟩ := open_string Tryz.underlying9 ok2 k2
    obtain ⟨s3, rfl, rfl, rfl, hs3⟩ := open_string Tryz.underlying9 ok3 k3
    rw [str_eta s1, str_eta s2, str_eta s3]
    exact lawBack12 mi mb nx l _ _ _ x W hx
  refine C.mono fun e W' ⟨he, bel⟩ => ?_
  subst he
  exact ⟨_, rfl, _, _, _, [], _, [], hW', trodAll_mk1 (shut_bool Tryz.underlying4 _), (trodAll_cons_mk (Below.trod laidOut (by kernel_rfl) (of_decide_eq_true (by kernel_rfl)) k0 bel lt0) (trodAll_cons_mk (Below.trod laidOut (by kernel_rfl) (of_decide_eq_true (by kernel_rfl)) k1 bel lt1) (trodAll_cons_mk (Below.trod laidOut (by kernel_rfl) (of_decide_eq_true (by kernel_rfl)) k2 bel lt2) (trodAll_cons_mk (Below.trod laidOut (by kernel_rfl) (of_decide_eq_true (by kernel_rfl)) k3 bel lt3) trodAll_mk0)))), rfl, bel.frame _, fun h => by cases h⟩
theorem proved : Rows.DropBackSaid :=
  OpenClaim.holds_of_wide 7 Tryz.f7 rfl rfl rfl rfl rfl rfl rfl ⟨rfl, rfl, rfl, rfl, rfl⟩ rfl rfl rfl rfl rfl (by kernel_rfl) Tryz.func7 (by kernel_rfl)
    (of_decide_eq_true (by kernel_rfl)) (by unfold Func.isWrapper; first | (rw [if_pos (by decide +kernel)]; kernel_rfl) | (rw [if_neg (by decide +kernel)]; exact ⟨rfl, rfl⟩))
    (fun os started H enc _ => lifted os started H enc)
#print axioms proved
end LDropBack
end Go.Proofs.YtdgedcfenpmaoaaGreat
