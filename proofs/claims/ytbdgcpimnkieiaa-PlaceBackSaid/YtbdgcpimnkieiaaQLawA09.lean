/- For every sound file system and every path of at most 1,000 bytes: package place answers where it leads, and the inode there, as the document does (no condition). -/
import Derived.Test.YtbdgcpimnkieiaaQAwake09
import Derived.Test.YtbdgcpimnkieiaaQWalkH05
import Derived.Test.YtbdgcpimnkieiaaQWalkF07
import Derived.Laws.StructEq
import Derived.Test.YtbdgcpimnkieiaaQLawBase05
namespace Go.Proofs.Ytbdgcpimnkieiaa
open Go.ChangeShapes Go.WideShapes Go.ChangeAt Go.RowKit
open Go.ChangeMaps (open_string shut_string)
set_option linter.unusedVariables false

theorem one_same (x : Nd) (w : World) (hx : Ents w x.ev x.ents) : Calls Try.prog 12 #[.agg (ndC x), .agg (ndC x)] w fun e w' => e = .returned (.bool true) ∧ Below w.heap.size w w' := by
  have := refOne_any x x w hx hx
  rwa [oneB_refl] at this
theorem get_ents0 {w : World} {v : Value} {l : List Nd} (h : Nds w v l) (p : List UInt8) : Ents w (getP l p).1.ev (getP l p).1.ents := by
  by_cases h1 : (atP l p).2 = 0
  · by_cases h2 : (atP l p).1.ino = 0
    · rw [getP_none h1 h2]; exact Ents.nil_ w
    · rw [getP_some h1 h2]; exact get_ents h.all _
  · rw [getP_err h1]; exact Ents.nil_ w

set_option maxHeartbeats 4000000 in
set_option maxRecDepth 100000 in
theorem lawAts (mi mb nx : Int) (l : List Nd) (p : List UInt8) (v : Value) (w : World) (hv : Nds w v l) :
    Calls Try.prog 3 #[.agg (fsC mi mb nx v), .string ⟨p.toArray⟩] w fun e w' => e = .returned (.bool true) ∧ Below w.heap.size w w' := by
  obtain ⟨a, ca, rfl⟩ := nds_slice hv
  have bF := Blk.new w 24 (fsC mi mb nx (.slice a l.length ca))
  have hB := alloc_below w (.cells (fsC mi mb nx (.slice a l.length ca)) 24)
  have nV := hv.below hB
  clear hv
  cases hok : okB mi mb nx l
  · go_enter Try.func3, Try.ntmps3
    go_wp2_with fail; refine (awake_any _).mono ?_; rintro e w1 ⟨rfl, b⟩
    (replace bF := bF.next b; replace nV := nV.below b; replace hB := hB.trans (b.mono hB.size))
    obtain ⟨⟨p0, p1, p2, p3⟩, _⟩ := bF.four
    go_wp2_with fail; refine (refOk_any mi mb nx l _ _ nV).mono ?_; rintro e w2 ⟨rfl, b2⟩
    (replace bF := bF.next b2; replace nV := nV.below b2; replace hB := hB.trans (b2.mono hB.size))
    rw [hok]
    go_wp2_with fail; refine (awake_any _).mono ?_; rintro e w3 ⟨rfl, b3⟩
    go_wp2
    go_ret
    exact ⟨rfl, hB.trans (b3.mono hB.size)⟩
  by_cases hp : 1000 < p.length
  · go_enter Try.func3, Try.ntmps3
    go_wp2_with fail; refine (awake_any _).mono ?_; rintro e w1 ⟨rfl, b⟩
    (replace bF := bF.next b; replace nV := nV.below b; replace hB := hB.trans (b.mono hB.size))
    obtain ⟨⟨p0, p1, p2, p3⟩, _⟩ := bF.four
    go_wp2_with fail; refine (refOk_any mi mb nx l _ _ nV).mono ?_; rintro e w2 ⟨rfl, b2⟩
    (replace bF := bF.next b2; replace nV := nV.below b2; replace hB := hB.trans (b2.mono hB.size))
    rw [hok]
    go_wp2_with fail; refine (awake_any _).mono ?_; rintro e w3 ⟨rfl, b3⟩
    go_wp2
    go_ret
    exact ⟨rfl, hB.trans (b3.mono hB.size)⟩
  have hAt := fun W hW => At_any mi mb nx l p (.slice a l.length ca) W hW (by omega) (calm_of hok)
  have hRt := fun W hW => refAt_any mi mb nx l p (.slice a l.length ca) W hW (by omega)
  have hAg := fun W hW => GetP_any mi mb nx l p (.slice a l.length ca) W hW (by omega) (calm_of hok) (leads_in hok p)
  have hRg := fun W hW => refGetP_any mi mb nx l p (.slice a l.length ca) W hW (by omega)
  have hEG := fun W (hW : Nds W (.slice a l.length ca) l) => get_ents0 hW p
  generalize atP l p = q at *
  obtain ⟨⟨sd, sn, si⟩, er⟩ := q
  generalize getP l p = G at *
  obtain ⟨⟨gi, gk, gl, gd, gp, ge, gn⟩, eg⟩ := G
  dsimp only at hAt hRt hAg hRg hEG
  obtain ⟨ag, cg, rfl, _⟩ := hEG _ nV
  go_enter Try.func3, Try.ntmps3
  go_wp2_with fail; refine (awake_any _).mono ?_; rintro e w1 ⟨rfl, b⟩
  (replace bF := bF.next b; replace nV := nV.below b; replace hB := hB.trans (b.mono hB.size))
  obtain ⟨⟨p0, p1, p2, p3⟩, _⟩ := bF.four
  go_wp2_with fail; refine (refOk_any mi mb nx l _ _ nV).mono ?_; rintro e w2 ⟨rfl, b2⟩
  (replace bF := bF.next b2; replace nV := nV.below b2; replace hB := hB.trans (b2.mono hB.size))
  rw [hok]
  clear b b2 p0 p1 p2 p3
  obtain ⟨⟨p0, p1, p2, p3⟩, _⟩ := bF.four
  go_wp2_with fail; refine (hAt _ nV).mono ?_; rintro e w3 ⟨rfl, b3⟩
  have s3 := alloc_below w3 (.cells (spC ⟨sd, sn, si⟩) 28)
  have bA := Blk.new w3 28 (spC ⟨sd, sn, si⟩)
  (replace bF := bF.next b3; replace nV := nV.below b3; replace hB := hB.trans (b3.mono hB.size))
  (replace bF := bF.next s3; replace nV := nV.below s3; replace hB := hB.trans (s3.mono hB.size))
  clear b3 s3 p0 p1 p2 p3
  obtain ⟨⟨p0, p1, p2, p3⟩, _⟩ := bF.four
  go_wp2_with fail; refine (hRt _ nV).mono ?_; rintro e w4 ⟨rfl, b4⟩
  have s4 := alloc_below w4 (.cells (spC ⟨sd, sn, si⟩) 28)
  have bC := Blk.new w4 28 (spC ⟨sd, sn, si⟩)
  replace bA := (bA.next b4).next s4
  (replace bF := bF.next b4; replace nV := nV.below b4; replace hB := hB.trans (b4.mono hB.size))
  (replace bF := bF.next s4; replace nV := nV.below s4; replace hB := hB.trans (s4.mono hB.size))
  clear b4 s4 p0 p1 p2 p3
  obtain ⟨⟨p0, p1, p2, p3⟩, _⟩ := bF.four
  go_wp2_with fail; refine (hAg _ nV).mono ?_; rintro e w5 ⟨rfl, b5⟩
  have s5 := alloc_below w5 (.cells (ndC ⟨gi, gk, gl, gd, gp, .slice ag gn.length cg, gn⟩) 36)
  have bX := Blk.new w5 36 (ndC ⟨gi, gk, gl, gd, gp, .slice ag gn.length cg, gn⟩)
  replace bA := (bA.next b5).next s5
  replace bC := (bC.next b5).next s5
  (replace bF := bF.next b5; replace nV := nV.below b5; replace hB := hB.trans (b5.mono hB.size))
  (replace bF := bF.next s5; replace nV := nV.below s5; replace hB := hB.trans (s5.mono hB.size))
  clear b5 s5 p0 p1 p2 p3
  obtain ⟨⟨p0, p1, p2, p3⟩, _⟩ := bF.four
  go_wp2_with fail; refine (hRg _ nV).mono ?_; rintro e w6 ⟨rfl, b6⟩
  have s6 := alloc_below w6 (.cells (ndC ⟨gi, gk, gl, gd, gp, .slice ag gn.length cg, gn⟩) 36)
  have bY := Blk.new w6 36 (ndC ⟨gi, gk, gl, gd, gp, .slice ag gn.length cg, gn⟩)
  replace bA := (bA.next b6).next s6
  replace bC := (bC.next b6).next s6
  replace bX := (bX.next b6).next s6
  (replace bF := bF.next b6; replace nV := nV.below b6; replace hB := hB.trans (b6.mono hB.size))
  (replace bF := bF.next s6; replace nV := nV.below s6; replace hB := hB.trans (s6.mono hB.size))
  clear b6 s6 p0 p1 p2 p3
  obtain ⟨⟨a0, a1, a2⟩, _⟩ := bA.three
  obtain ⟨⟨c0, c1, c2⟩, _⟩ := bC.three
  obtain ⟨⟨x0, x1, x2, x3, x4, x5⟩, _⟩ := bX.six
  obtain ⟨⟨y0, y1, y2, y3, y4, y5⟩, _⟩ := bY.six
  dsimp only at a0 a1 a2 c0 c1 c2 x0 x1 x2 x3 x4 x5 y0 y1 y2 y3 y4 y5
  go_wp2_with fail
  refine (one_same ⟨gi, gk, gl, gd, gp, .slice ag gn.length cg, gn⟩ _ (hEG _ nV)).mono ?_
  rintro e w7 ⟨rfl, b7⟩
  go_wp2
  go_ret
  exact ⟨rfl, hB.trans (b7.mono hB.size)⟩

namespace LPlaceAts
set_option maxRecDepth 100000 in
theorem lifted (os : Os) (started : os.Started) (H : Type) (enc : TypeId × Value → H) :
    ReturnsInHanded {} Try.checked os 3 .any (Rows.placeAtsSpec.pre6 enc Try.prog Try.f3 Rows.placeAtsRow.domain false) (Rows.placeAtsSpec.post enc Try.prog Try.f3 false true false false) := by
  refine returnsInHanded_of_change (C := Try.checked) (by kernel_rfl) started (by kernel_rfl) Try.func3
    (ChangeSpec.witness6 (enc := enc) (C := Try.checked) false ⟨#[], #[.agg #[.int .i64 0, .int .i64 0, .int .i64 0, .slice none 0 0], .string ByteArray.empty], []⟩ 8 (by kernel_rfl) (by kernel_rfl) (by kernel_rfl) (by kernel_rfl)) ?_
  intro W base args ds gs before hval0 hW hcnd _
  have hval : ∀ (j : Nat) t v, Try.f3.params[j]? = some t → args[j]? = some v → Value.okWide Try.prog W .any base t v := hval0
  have hW' := hW
  obtain ⟨p, q, hA0, hV, rfl, hfz, hnd⟩ := hW
  have hA : DataW.TrodAll enc Try.prog W 0 (fun _ => true) true Try.f3.params.toList args.toList ds p := hA0
  rw [Try.params3] at hA hval
  obtain ⟨v0, vs0, d0, ds0, p0, q0, hargs, rfl, rfl, k0, r0⟩ := trodAll_cons hA
  obtain ⟨v1, vs1, d1, ds1, p1, q1, rfl, rfl, rfl, k1, r1⟩ := trodAll_cons r0
  obtain ⟨rfl, rfl, rfl⟩ := trodAll_nil r1
  obtain rfl : args = #[v0, v1] := by cases args; simp_all
  obtain ⟨rfl, rfl⟩ := trodVars_none hV
  have ok0 := hval 0 24 v0 rfl rfl
  have ok1 := hval 1 9 v1 rfl rfl
  have lt0 : ∀ x ∈ p0, x.block < W.heap.size := by obtain ⟨m, hm⟩ := k0; exact DataW.trod_lt m _ _ _ hm
  have lt1 : ∀ x ∈ p1, x.block < W.heap.size := by obtain ⟨m, hm⟩ := k1; exact DataW.trod_lt m _ _ _ hm
  have C : Calls Try.prog 3 #[v0, v1] W fun e w' => e = .returned (.bool true) ∧ Below W.heap.size W w' := by
    clear hA0 hval0 hval hW' hcnd hV hfz hnd
    obtain ⟨mi, mb, nx, x, l, rfl, hx⟩ := fs_of_trod k0 ok0
    obtain ⟨s, rfl, rfl, rfl, hs⟩ := open_string Try.underlying9 ok1 k1
    rw [str_eta s]
    exact lawAts mi mb nx l _ x W hx
  refine C.mono fun e W' ⟨he, bel⟩ => ?_
  subst he
  exact ⟨_, rfl, _, _, _, [], _, [], hW', trodAll_mk1 (shut_bool Try.underlying4 _), (trodAll_cons_mk (Below.trod laidOut (by kernel_rfl) (of_decide_eq_true (by kernel_rfl)) k0 bel lt0) (trodAll_cons_mk (Below.trod laidOut (by kernel_rfl) (of_decide_eq_true (by kernel_rfl)) k1 bel lt1) trodAll_mk0)), rfl, bel.frame _, fun h => by cases h⟩
theorem proved : Rows.PlaceAtsSaid :=
  OpenClaim.holds_of_wide 3 Try.f3 rfl rfl rfl rfl rfl rfl rfl ⟨rfl, rfl, rfl, rfl, rfl⟩ rfl rfl rfl rfl rfl (by kernel_rfl) Try.func3 (by kernel_rfl)
    (of_decide_eq_true (by kernel_rfl)) (by unfold Func.isWrapper; first | (rw [if_pos (by decide +kernel)]; kernel_rfl) | (rw [if_neg (by decide +kernel)]; exact ⟨rfl, rfl⟩))
    (fun os started H enc _ => lifted os started H enc)
#print axioms proved
end LPlaceAts
end Go.Proofs.Ytbdgcpimnkieiaa
