/- WalkPaths: of every sound file system, and every number, the program's paths of the inode are the document's, in order; a directory has just one, which PathOf tells; of what is no directory PathOf tells nothing. Of file systems that are not sound, or too large for the statement, it asks only its fixed answers. -/
import Derived.Test.YtneklkjlcpgdgaaQWalkF07
import Derived.Test.YtneklkjlcpgdgaaQAwakeB08
import Derived.Test.YtneklkjlcpgdgaaQLawBase05
import Derived.Test.YtneklkjlcpgdgaaQ
import Derived.BigQuiet
import Derived.Deep.RegionHeld3
namespace Go.Proofs.Ytneklkjlcpgdgaa
open Go.ChangeShapes Go.WideShapes Go.ChangeAt Go.RowKit
open Go.ChangeMaps (open_string shut_string)
set_option linter.unusedVariables false

set_option maxHeartbeats 8000000 in
set_option maxRecDepth 100000 in
theorem lawPaths (mi mb nx ino : Int) (l : List Nd) (v : Value) (w : World) (hv : Nds w v l) :
    Calls Try.prog 4 #[.agg (fsC mi mb nx v), .int .i64 ino] w fun e w' => e = .returned (.bool true) ∧ Below w.heap.size w w' := by
  obtain ⟨a, ca, rfl⟩ := nds_slice hv
  have bF := Blk.new w 24 (fsC mi mb nx (.slice a l.length ca))
  have hB := alloc_below w (.cells (fsC mi mb nx (.slice a l.length ca)) 24)
  have nV := hv.below hB
  have HV := Lib.hid hv
  clear hv
  cases hok : okB mi mb nx l
  · go_enter Try.func4, Try.ntmps4
    go_wp2_with fail; refine (awake08 _).mono ?_; rintro e w1 ⟨rfl, b1⟩
    (replace bF := bF.next b1; replace nV := nV.below b1; replace hB := hB.trans (b1.mono hB.size))
    obtain ⟨⟨p0, p1, p2, p3⟩, _⟩ := bF.four
    go_wp2_with fail; refine (refOk_any mi mb nx l _ _ nV).mono ?_; rintro e w2 ⟨rfl, b2⟩
    (replace bF := bF.next b2; replace nV := nV.below b2; replace hB := hB.trans (b2.mono hB.size))
    rw [hok]
    go_wp2_with fail; refine (awake08 _).mono ?_; rintro e w9 ⟨rfl, b9⟩
    go_wp2
    go_ret
    exact ⟨rfl, hB.trans (b9.mono hB.size)⟩
  have t := tree_of hok
  obtain ⟨f1, f2, f3⟩ := few_ents (ok_parts hok).1
  have f4 := (fewN_small (ok_parts hok).1).2
  have hLl : (listN l).length ≤ 1000000 := by rw [list_exact t]; omega
  have hWl : (walkS l 1 []).length ≤ 1000000 := by rw [walk_list t, List.length_map] at hLl; exact hLl
  have hok7 := refOk_any mi mb nx l
  rw [hok] at hok7
  have hkd : isDir l ino = (hasN l ino && decide ((getN l ino).kind = 2)) := rfl
  have hdt := fun h => dir_total t (i := ino) h
  have HCP := fun W (h : Nds W (.slice a l.length ca) l) => PathsW_any mi mb nx l t f3 (by omega) _ W h ino hWl
  have HCR := fun W (h : Nds W (.slice a l.length ca) l) => refPaths_any mi mb nx ino l _ W h f3 (by omega) hLl
  have HCO := fun W (h : Nds W (.slice a l.length ca) l) => PathOfW_any mi mb nx l t f3 (by omega) (fun x hx => by have := f4 x hx; omega) _ W h ino
  have HP1 := Lib.hid HCP
  have HP2 := Lib.hid HCR
  have HP3 := Lib.hid HCO
  clear t f3 f4 hLl hWl HCP HCR HCO hok
  obtain ⟨⟨p0, p1, p2, p3⟩, _⟩ := bF.four
  go_enter Try.func4, Try.ntmps4
  go_wp2_with fail; refine (awake08 _).mono ?_; rintro e w1 ⟨rfl, b1⟩
  clear p0 p1 p2 p3
  (replace bF := bF.next b1; replace nV := nV.below b1; replace hB := hB.trans (b1.mono hB.size))
  obtain ⟨⟨p0, p1, p2, p3⟩, _⟩ := bF.four
  go_wp2_with fail; refine (hok7 _ _ nV).mono ?_; rintro e w2 ⟨rfl, b2⟩
  clear p0 p1 p2 p3
  (replace bF := bF.next b2; replace nV := nV.below b2; replace hB := hB.trans (b2.mono hB.size))
  obtain ⟨⟨p0, p1, p2, p3⟩, _⟩ := bF.four
  go_wp2_with fail; refine (HP2.out _ nV).mono ?_; rintro e w3 ⟨y3, rfl, hown3, b3⟩
  clear p0 p1 p2 p3
  (replace bF := bF.next b3; replace nV := nV.below b3; replace hB := hB.trans (b3.mono hB.size))
  obtain ⟨⟨p0, p1, p2, p3⟩, _⟩ := bF.four
  go_wp2_with fail; refine (HP3.out _ nV).mono ?_; rintro e w4 ⟨rfl, b4⟩
  clear p0 p1 p2 p3
  (replace bF := bF.next b4; replace nV := nV.below b4; replace hB := hB.trans (b4.mono hB.size))
  replace hown3 := own_keep hown3 b4
  obtain ⟨⟨p0, p1, p2, p3⟩, _⟩ := bF.four
  have hG := refGetT_any mi mb nx ino l _ _ nV
  obtain ⟨ag, ng, cg, hgs⟩ := get_slice nV ino
  generalize hGG : getN l ino = G at *
  have HGG := Lib.hid hGG
  clear hGG
  obtain ⟨gi, gk, gl, gd, gp, ge, gn⟩ := G
  dsimp only at hgs hkd
  subst hgs
  have HKD := Lib.hid hkd
  clear hkd
  go_wp2_with fail
  refine hG.mono ?_
  rintro e w5 ⟨rfl, b5⟩
  clear hG p0 p1 p2 p3
  (replace bF := bF.next b5; replace nV := nV.below b5; replace hB := hB.trans (b5.mono hB.size))
  replace hown3 := own_keep hown3 b5
  have bX := Blk.new w5 41 (ndC ⟨gi, gk, gl, gd, gp, .slice ag ng cg, gn⟩)
  have s5 := alloc_below w5 (.cells (ndC ⟨gi, gk, gl, gd, gp, .slice ag ng cg, gn⟩) 41)
  go_upto_region 6 with fail
  (replace bF := bF.next s5; replace nV := nV.below s5; replace hB := hB.trans (s5.mono hB.size))
  replace hown3 := own_keep hown3 s5
  generalize w5.alloc (.cells (ndC ⟨gi, gk, gl, gd, gp, .slice ag ng cg, gn⟩) 41) = w6 at *
  obtain ⟨⟨p0, p1, p2, p3⟩, _⟩ := bF.four
  go_wp2_with fail; refine (HP1.out _ nV).mono ?_; rintro e w7 ⟨y7, rfl, hown7, b7⟩
  clear p0 p1 p2 p3
  (replace bF := bF.next b7; replace nV := nV.below b7; replace hB := hB.trans (b7.mono hB.size))
  replace hown3 := own_keep hown3 b7
  replace bX := bX.next b7
  have hSame := Same_any _ _ _ _ w7 (own_strs hown7) (own_strs hown3)
  rw [decide_eq_true (rfl : pathsN l ino = pathsN l ino)] at hSame
  go_wp2_with fail
  refine hSame.mono ?_
  rintro e w8 ⟨rfl, b8⟩
  clear hSame hown7
  (replace bF := bF.next b8; replace nV := nV.below b8; replace hB := hB.trans (b8.mono hB.size))
  replace hown3 := own_keep hown3 b8
  replace bX := bX.next b8
  obtain ⟨⟨x0, x1, x2, x3, x4, x5⟩, _⟩ := bX.six
  dsimp only at x0 x1 x2 x3 x4 x5
  cases hdir : isDir l ino
  · have HOUT : Hid (pathOfB l ino = []) := by (show _ = _); unfold pathOfB; rw [if_neg (by rw [hdir]; simp)]
    have hkd := HKD.out
    rw [hdir] at hkd
    have hpo := HOUT.out
    have hkk : hasN l ino = false ∨ (hasN l ino = true ∧ (gk == 2) = false) := by
      cases h : hasN l ino
      · exact .inl rfl
      · rw [h, Bool.true_and] at hkd; exact .inr ⟨rfl, by simpa using hkd.symm⟩
    clear hkd hdt HOUT HKD
    generalize isDir l ino = di at *
    subst hdir
    generalize pathOfB l ino = po at *
    subst hpo
    generalize hasN l ino = r at *
    rcases hkk with rfl | ⟨rfl, hk2⟩
    · go_wp2
      go_ret
      exact ⟨rfl, hB⟩
    · go_wp2
      go_ret
      exact ⟨rfl, hB⟩
  · obtain ⟨ns, _, hpt⟩ := hdt hdir
    have hpo : pathOfB l ino = joinB ns := by unfold pathOfB; rw [if_pos hdir, hpt]; rfl
    have hkd := HKD.out
    rw [hdir] at hkd
    have hkk : hasN l ino = true ∧ gk = 2 := by
      cases h : hasN l ino
      · rw [h] at hkd; cases hkd
      · rw [h, Bool.true_and] at hkd; exact ⟨rfl, by simpa using hkd.symm⟩
    rw [hpt] at hown3
    obtain ⟨g3, c3, rfl⟩ := ownsRow_succ hown3
    have q0 := (hown3.cellAt 0 (by decide)).trans (rfl : _ = some (Value.string ⟨(joinB ns).toArray⟩))
    clear hkd hdt HKD
    generalize isDir l ino = di at *
    subst hdir
    generalize pathOfB l ino = po at *
    subst hpo
    generalize hasN l ino = r at *
    obtain ⟨rfl, rfl⟩ := hkk
    clear hpt
    go_wp2
    go_ret
    exact ⟨by simp, hB⟩

namespace LWalkPaths
set_option maxRecDepth 100000 in
theorem lifted (os : Os) (started : os.Started) (H : Type) (enc : TypeId × Value → H) :
    ReturnsInHanded {} Try.checked os 4 .any (Rows.walkPathsSpec.pre6 enc Try.prog Try.f4 Rows.walkPathsRow.domain false) (Rows.walkPathsSpec.post enc Try.prog Try.f4 false true false false) := by
  refine returnsInHanded_of_change (C := Try.checked) (by kernel_rfl) started (by kernel_rfl) Try.func4
    (ChangeSpec.witness6 (enc := enc) (C := Try.checked) false ⟨#[], #[.agg #[.int .i64 0, .int .i64 0, .int .i64 0, .slice none 0 0], .int .i64 0], []⟩ 8 (by kernel_rfl) (by kernel_rfl) (by kernel_rfl) (by kernel_rfl)) ?_
  intro W base args ds gs before hval0 hW hcnd _
  have hval : ∀ (j : Nat) t v, Try.f4.params[j]? = some t → args[j]? = some v → Value.okWide Try.prog W .any base t v := hval0
  have hW' := hW
  obtain ⟨p, q, hA0, hV, rfl, hfz, hnd⟩ := hW
  have hA : DataW.TrodAll enc Try.prog W 0 (fun _ => true) true Try.f4.params.toList args.toList ds p := hA0
  rw [Try.params4] at hA hval
  obtain ⟨v0, vs0, d0, ds0, p0, q0, hargs, rfl, rfl, k0, r0⟩ := trodAll_cons hA
  obtain ⟨v1, vs1, d1, ds1, p1, q1, rfl, rfl, rfl, k1, r1⟩ := trodAll_cons r0
  obtain ⟨rfl, rfl, rfl⟩ := trodAll_nil r1
  obtain rfl : args = #[v0, v1] := by cases args; simp_all
  obtain ⟨rfl, rfl⟩ := trodVars_none hV
  have ok0 := hval 0 24 v0 rfl rfl
  have ok1 := hval 1 3 v1 rfl rfl
  have lt0 : ∀ x ∈ p0, x.block < W.heap.size := by obtain ⟨m, hm⟩ := k0; exact DataW.trod_lt m _ _ _ hm
  have lt1 : ∀ x ∈ p1, x.block < W.heap.size := by obtain ⟨m, hm⟩ := k1; exact DataW.trod_lt m _ _ _ hm
  have C : Calls Try.prog 4 #[v0, v1] W fun e w' => e = .returned (.bool true) ∧ Below W.heap.size W w' := by
    clear hA0 hval0 hval hW' hcnd hV hfz hnd
    obtain ⟨mi, mb, nx, x, l, rfl, hx⟩ := fs_of_trod k0 ok0
    obtain ⟨i, rfl, rfl, rfl, hi⟩ := open_int Try.underlying3 ok1 k1
    exact lawPaths mi mb nx i l x W hx
  refine C.mono fun e W' ⟨he, bel⟩ => ?_
  subst he
  exact ⟨_, rfl, _, _, _, [], _, [], hW', trodAll_mk1 (shut_bool Try.underlying4 _), (trodAll_cons_mk (Below.trod laidOut (by kernel_rfl) (of_decide_eq_true (by kernel_rfl)) k0 bel lt0) (trodAll_cons_mk (Below.trod laidOut (by kernel_rfl) (of_decide_eq_true (by kernel_rfl)) k1 bel lt1) trodAll_mk0)), rfl, bel.frame _, fun h => by cases h⟩
theorem proved : Rows.WalkPathsSaid :=
  OpenClaim.holds_of_wide 4 Try.f4 rfl rfl rfl rfl rfl rfl rfl ⟨rfl, rfl, rfl, rfl, rfl⟩ rfl rfl rfl rfl rfl (by kernel_rfl) Try.func4 (by kernel_rfl)
    (of_decide_eq_true (by kernel_rfl)) (by unfold Func.isWrapper; first | (rw [if_pos (by decide +kernel)]; kernel_rfl) | (rw [if_neg (by decide +kernel)]; exact ⟨rfl, rfl⟩))
    (fun os started H enc _ => lifted os started H enc)
#print axioms proved
end LWalkPaths
end Go.Proofs.Ytneklkjlcpgdgaa
