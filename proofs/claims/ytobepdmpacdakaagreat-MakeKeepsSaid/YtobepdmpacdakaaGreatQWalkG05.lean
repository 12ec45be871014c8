/- Walks: are inodes, lists of inodes, tables alike: the document's and the program's. -/
import Derived.Test.YtobepdmpacdakaaGreatQB
import Derived.Test.YtobepdmpacdakaaGreatQWalkC05
set_option linter.unusedVariables false
set_option linter.unusedSimpArgs false
namespace Go.Proofs.YtobepdmpacdakaaGreat
open Go.RowKit

set_option maxHeartbeats 2000000 in
theorem refOne_any (x y : Nd) (w : World) (hx : Ents w x.ev x.ents) (hy : Ents w y.ev y.ents) :
    Calls Tryz.prog 54 #[.agg (ndC x), .agg (ndC y)] w fun e w' => e = .returned (.bool (oneB x y)) ∧ Below w.heap.size w w' := by
  have hB : Below w.heap.size w ((w.alloc (.cells (ndC x) 45)).alloc (.cells (ndC y) 45)) := ((Below.refl _ w).alloc (Nat.le_refl _) _).alloc (by simp) _
  have hx2 := hx.below hB
  have hy2 := hy.below hB
  clear hx hy
  obtain ⟨xi, xk, xl, xd, xp, xe, xn⟩ := x
  obtain ⟨yi, yk, yl, yd, yp, ye, yn⟩ := y
  dsimp only at hx2 hy2
  obtain ⟨a, ca, rfl, _⟩ := id hx2
  obtain ⟨b, cb, rfl, _⟩ := id hy2
  cases h1 : (xi == yi) with | false => (have HN := Lib.hid (oneB_no1 (a := ⟨xi, xk, xl, xd, xp, .slice a xn.length ca, xn⟩) (b := ⟨yi, yk, yl, yd, yp, .slice b yn.length cb, yn⟩) h1); go_enter Tryz.func54, Tryz.ntmps54; go_wp2; go_ret; exact ⟨ret_bool (by rw [HN.out]), hB⟩) | true => (cases h2 : (xk == yk) with | false => (have HN := Lib.hid (oneB_no2 (a := ⟨xi, xk, xl, xd, xp, .slice a xn.length ca, xn⟩) (b := ⟨yi, yk, yl, yd, yp, .slice b yn.length cb, yn⟩) h2); go_enter Tryz.func54, Tryz.ntmps54; go_wp2; go_ret; exact ⟨ret_bool (by rw [HN.out]), hB⟩) | true => (cases h3 : (xl == yl) with | false => (have HN := Lib.hid (oneB_no3 (a := ⟨xi, xk, xl, xd, xp, .slice a xn.length ca, xn⟩) (b := ⟨yi, yk, yl, yd, yp, .slice b yn.length cb, yn⟩) h3); go_enter Tryz.func54, Tryz.ntmps54; go_wp2; go_ret; exact ⟨ret_bool (by rw [HN.out]), hB⟩) | true => (cases h4 : (xd == yd) with | false => (have HN := Lib.hid (oneB_no4 (a := ⟨xi, xk, xl, xd, xp, .slice a xn.length ca, xn⟩) (b := ⟨yi, yk, yl, yd, yp, .slice b yn.length cb, yn⟩) h4); go_enter Tryz.func54, Tryz.ntmps54; go_wp2; go_ret; exact ⟨ret_bool (by rw [HN.out]), hB⟩) | true => (cases h5 : (xp == yp) with | false => (have HN := Lib.hid (oneB_no5 (a := ⟨xi, xk, xl, xd, xp, .slice a xn.length ca, xn⟩) (b := ⟨yi, yk, yl, yd, yp, .slice b yn.length cb, yn⟩) h5); go_enter Tryz.func54, Tryz.ntmps54; go_wp2; go_ret; exact ⟨ret_bool (by rw [HN.out]), hB⟩) | true => (have HN := Lib.hid (oneB_ents (a := ⟨xi, xk, xl, xd, xp, .slice a xn.length ca, xn⟩) (b := ⟨yi, yk, yl, yd, yp, .slice b yn.length cb, yn⟩) h1 h2 h3 h4 h5); go_enter Tryz.func54, Tryz.ntmps54; go_wp2_with fail; refine (refSame_any xn yn _ _ _ hx2 hy2).mono ?_; rintro e w2 ⟨rfl, b2⟩; go_wp2; go_ret; exact ⟨ret_bool (by rw [HN.out]), hB.trans (b2.mono hB.size)⟩)))))

end Go.Proofs.YtobepdmpacdakaaGreat
