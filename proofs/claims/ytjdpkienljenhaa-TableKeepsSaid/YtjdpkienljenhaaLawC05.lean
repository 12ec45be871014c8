/- For every table of few inodes that rise, and every inode: package table sets it as the document does, and takes the next number (no condition). -/
import Derived.Test.YtjdpkienljenhaaLawBase05
import Derived.Test.YtjdpkienljenhaaLawB05
import Derived.BigQuiet
import Derived.Deep.Cut
namespace Go.Proofs.Ytjdpkienljenhaa
open Go.ChangeShapes Go.WideShapes Go.ChangeAt Go.RowKit
open Go.ChangeMaps (open_string shut_string)
set_option linter.unusedVariables false

theorem setN_call (mi mb nx : Int) (l : List Nd) (x : Nd) (v : Value) (w : World) (hv : Nds w v l) (hx : Ents w x.ev x.ents) (hs : riseP l) (hl : l.length ≤ 40) (hd : ∀ y ∈ l, y.data.length ≤ 281474976710656) (hdx : x.data.length ≤ 281474976710656) :
    Calls Try.prog 20 #[.agg (fsC mi mb nx v), .agg (ndC x)] w fun e w' => ∃ y, e = .returned (.agg (fsC mi mb nx y)) ∧ Nds w' y (setN l x) ∧ Below w.heap.size w w' := by
  refine (SetN_any mi mb nx l x v w hv hx hs (by omega) hd hdx).mono ?_
  rintro e w' ⟨y, rfl, hnew⟩
  refine ⟨y, rfl, new_nds hnew (fun z hz => ?_), hnew.2⟩
  rcases mem_setN hz with rfl | hz
  · exact hx.below hnew.2
  · exact (hv.below hnew.2).all z hz
theorem refSet_call (mi mb nx : Int) (l : List Nd) (x : Nd) (v : Value) (w : World) (hv : Nds w v l) (hx : Ents w x.ev x.ents) (hs : riseP l) (hl : l.length ≤ 40) :
    Calls Try.prog 21 #[.agg (fsC mi mb nx v), .agg (ndC x)] w fun e w' => ∃ y, e = .returned (.agg (fsC mi mb nx y)) ∧ Nds w' y (setN l x) ∧ Below w.heap.size w w' := by
  refine (refSetT_any mi mb nx l x v w hv hx hs (by omega)).mono ?_
  rintro e w' ⟨y, rfl, hnew⟩
  refine ⟨y, rfl, new_nds hnew (fun z hz => ?_), hnew.2⟩
  rcases mem_setN hz with rfl | hz
  · exact hx.below hnew.2
  · exact (hv.below hnew.2).all z hz

set_option maxHeartbeats 8000000 in
set_option maxRecDepth 100000 in
theorem lawSets (mi mb nx : Int) (l : List Nd) (x : Nd) (v : Value) (w : World) (hv : Nds w v l) (hx : Ents w x.ev x.ents) (hxd : x.data.length ≤ maxLen) :
    Calls Try.prog 5 #[.agg (fsC mi mb nx v), .agg (ndC x)] w fun e w' => e = .returned (.bool true) ∧ Below w.heap.size w w' := by
  unfold maxLen at hxd
  have hel : x.ents.length ≤ 9223372036854775807 := by obtain ⟨_, c, _, h1, h2, _⟩ := hx; unfold maxLen at h2; omega
  obtain ⟨a, ca, rfl⟩ := nds_slice hv
  obtain ⟨ae, ne, hye, _⟩ := id hx
  obtain ⟨yi, yk, yl, yd, yp, ye, yn⟩ := x
  dsimp only at hye hx hxd hel
  subst hye
  have bF := (Blk.new w 25 (fsC mi mb nx (.slice a l.length ca))).alloc (.cells (ndC ⟨yi, yk, yl, yd, yp, .slice ae yn.length ne, yn⟩) 35)
  have bX := Blk.new (w.alloc (.cells (fsC mi mb nx (.slice a l.length ca)) 25)) 35 (ndC ⟨yi, yk, yl, yd, yp, .slice ae yn.length ne, yn⟩)
  have hB : Below w.heap.size w ((w.alloc (.cells (fsC mi mb nx (.slice a l.length ca)) 25)).alloc (.cells (ndC ⟨yi, yk, yl, yd, yp, .slice ae yn.length ne, yn⟩) 35)) := ((Below.refl _ w).alloc (Nat.le_refl _) _).alloc (by simp) _
  have nV := hv.below hB
  replace hx := hx.below hB
  simp only [World.size_alloc] at bX
  clear hv
  cases hf : fewN l
  · go_enter Try.func5, Try.ntmps5
    go_wp2_with fail; refine (awake_any _).mono ?_; rintro e w1 ⟨rfl, b1⟩
    (replace bX := bX.next b1; replace hx := hx.below b1; replace bF := bF.next b1; replace nV := nV.below b1; replace hB := hB.trans (b1.mono hB.size))
    obtain ⟨⟨p0, p1, p2, p3⟩, _⟩ := bF.four
    go_wp2_with fail; refine (fewT_any mi mb nx l _ _ nV).mono ?_; rintro e w2 ⟨rfl, b2⟩
    (replace bX := bX.next b2; replace hx := hx.below b2; replace bF := bF.next b2; replace nV := nV.below b2; replace hB := hB.trans (b2.mono hB.size))
    rw [hf]
    go_wp2_with fail; refine (awake_any _).mono ?_; rintro e w9 ⟨rfl, b9⟩
    go_wp2
    go_ret
    exact ⟨rfl, hB.trans (b9.mono hB.size)⟩
  have hsm := fewN_small hf
  have hl40 := hsm.1
  have hd : ∀ y ∈ l, y.data.length ≤ 281474976710656 := fun y hy => Nat.le_trans (hsm.2 y hy) (by decide)
  have HD := Lib.hid hd
  clear hd hsm
  cases hr : riseN l
  · go_enter Try.func5, Try.ntmps5
    go_wp2_with fail; refine (awake_any _).mono ?_; rintro e w1 ⟨rfl, b1⟩
    (replace bX := bX.next b1; replace hx := hx.below b1; replace bF := bF.next b1; replace nV := nV.below b1; replace hB := hB.trans (b1.mono hB.size))
    obtain ⟨⟨p0, p1, p2, p3⟩, _⟩ := bF.four
    go_wp2_with fail; refine (fewT_any mi mb nx l _ _ nV).mono ?_; rintro e w2 ⟨rfl, b2⟩
    (replace bX := bX.next b2; replace hx := hx.below b2; replace bF := bF.next b2; replace nV := nV.below b2; replace hB := hB.trans (b2.mono hB.size))
    rw [hf]
    clear p0 p1 p2 p3
    obtain ⟨⟨p0, p1, p2, p3⟩, _⟩ := bF.four
    go_wp2_with fail; refine (riseT_any mi mb nx l _ _ nV (by omega)).mono ?_; rintro e w3 ⟨rfl, b3⟩
    (replace bX := bX.next b3; replace hx := hx.below b3; replace bF := bF.next b3; replace nV := nV.below b3; replace hB := hB.trans (b3.mono hB.size))
    rw [hr]
    go_wp2_with fail; refine (awake_any _).mono ?_; rintro e w9 ⟨rfl, b9⟩
    go_wp2
    go_ret
    exact ⟨rfl, hB.trans (b9.mono hB.size)⟩
  have hrp := (riseN_iff l).1 hr
  by_cases h5 : yd.length ≤ 5000
  · by_cases h4 : yn.length ≤ 40
    · go_enter Try.func5, Try.ntmps5
      go_wp2_with fail; refine (awake_any _).mono ?_; rintro e w1 ⟨rfl, b1⟩
      (replace bX := bX.next b1; replace hx := hx.below b1; replace bF := bF.next b1; replace nV := nV.below b1; replace hB := hB.trans (b1.mono hB.size))
      obtain ⟨⟨p0, p1, p2, p3⟩, _⟩ := bF.four
      go_wp2_with fail; refine (fewT_any mi mb nx l _ _ nV).mono ?_; rintro e w2 ⟨rfl, b2⟩
      (replace bX := bX.next b2; replace hx := hx.below b2; replace bF := bF.next b2; replace nV := nV.below b2; replace hB := hB.trans (b2.mono hB.size))
      rw [hf]
      clear p0 p1 p2 p3
      obtain ⟨⟨p0, p1, p2, p3⟩, _⟩ := bF.four
      go_wp2_with fail; refine (riseT_any mi mb nx l _ _ nV (by omega)).mono ?_; rintro e w3 ⟨rfl, b3⟩
      (replace bX := bX.next b3; replace hx := hx.below b3; replace bF := bF.next b3; replace nV := nV.below b3; replace hB := hB.trans (b3.mono hB.size))
      rw [hr]
      clear p0 p1 p2 p3
      obtain ⟨⟨s0, s1, s2, s3, s4, s5⟩, _⟩ := bX.six
      dsimp only at s0 s1 s2 s3 s4 s5
      go_upto_region 3 with fail
      have HMK : ∀ W, Below w3.heap.size w3 W → (W.cell? ⟨w.heap.size, 0, none⟩ = some (.int .i64 mi) ∧ W.cell? ⟨w.heap.size, 1, none⟩ = some (.int .i64 mb) ∧ W.cell? ⟨w.heap.size, 2, none⟩ = some (.int .i64 nx) ∧ W.cell? ⟨w.heap.size, 3, none⟩ = some (.slice a l.length ca) ∧ W.cell? ⟨w.heap.size + 1, 0, none⟩ = some (.int .i64 yi) ∧ W.cell? ⟨w.heap.size + 1, 1, none⟩ = some (.int .i64 yk) ∧ W.cell? ⟨w.heap.size + 1, 2, none⟩ = some (.int .i64 yl) ∧ W.cell? ⟨w.heap.size + 1, 3, none⟩ = some (.string ⟨yd.toArray⟩) ∧ W.cell? ⟨w.heap.size + 1, 4, none⟩ = some (.int .i64 yp) ∧ W.cell? ⟨w.heap.size + 1, 5, none⟩ = some (.slice ae yn.length ne)) := by
        intro W h
        obtain ⟨⟨x0, x1, x2, x3⟩, _⟩ := (bF.next h).four
        obtain ⟨⟨y0, y1, y2, y3, y4, y5⟩, _⟩ := (bX.next h).six
        exact ⟨x0, x1, x2, x3, y0, y1, y2, y3, y4, y5⟩
      have hq := (Below.refl w3.heap.size w3).drew
      have hxq : yd.length ≤ 281474976710656 := by omega
      clear s0 s1 s2 s3 s4 s5 b1 b2 b3
      go_cut [40] from 33 (fun s40 wc => s40 = .bool false ∧ Below w3.heap.size w3 wc)
      case first =>
        clear bF bX
        go_region_held3 (fun W => W.cell? ⟨w.heap.size, 0, none⟩ = some (.int .i64 mi) ∧ W.cell? ⟨w.heap.size, 1, none⟩ = some (.int .i64 mb) ∧ W.cell? ⟨w.heap.size, 2, none⟩ = some (.int .i64 nx) ∧ W.cell? ⟨w.heap.size, 3, none⟩ = some (.slice a l.length ca) ∧ W.cell? ⟨w.heap.size + 1, 0, none⟩ = some (.int .i64 yi) ∧ W.cell? ⟨w.heap.size + 1, 1, none⟩ = some (.int .i64 yk) ∧ W.cell? ⟨w.heap.size + 1, 2, none⟩ = some (.int .i64 yl) ∧ W.cell? ⟨w.heap.size + 1, 3, none⟩ = some (.string ⟨yd.toArray⟩) ∧ W.cell? ⟨w.heap.size + 1, 4, none⟩ = some (.int .i64 yp) ∧ W.cell? ⟨w.heap.size + 1, 5, none⟩ = some (.slice ae yn.length ne))
          (exact HMK _ hq)
          (first
            | (go_at_call 20; refine (setN_call mi mb nx l ⟨yi, yk, yl, yd, yp, .slice ae yn.length ne, yn⟩ _ _ (nV.below hq) (hx.below hq) hrp hl40 HD.out hxq).mono ?_; rintro e wz ⟨y1, rfl, nD1, bz⟩; obtain ⟨ad1, cd1, rfl⟩ := nds_slice nD1; have hq := hq.trans (bz.mono hq.size); try (replace nD2 := nD2.below bz))
            | (go_at_call 21; refine (refSet_call mi mb nx l ⟨yi, yk, yl, yd, yp, .slice ae yn.length ne, yn⟩ _ _ (nV.below hq) (hx.below hq) hrp hl40).mono ?_; rintro e wz ⟨y2, rfl, nD2, bz⟩; obtain ⟨ad2, cd2, rfl⟩ := nds_slice nD2; have hq := hq.trans (bz.mono hq.size); try (replace nD1 := nD1.below bz))
            | (go_at_call 11; refine (tab_same mi mb nx (setN l ⟨yi, yk, yl, yd, yp, .slice ae yn.length ne, yn⟩) _ _ _ nD1 nD2).mono ?_; rintro e wz ⟨rfl, bz⟩; have hq := hq.trans (bz.mono hq.size)))
        all_goals (go_wp2_with fail; go_meet)
        all_goals exact ⟨rfl, hq⟩
      case rest =>
        obtain ⟨rfl, hbc⟩ := hcut
        (replace bX := bX.next hbc; replace hx := hx.below hbc; replace bF := bF.next hbc; replace nV := nV.below hbc; replace hB := hB.trans (hbc.mono hB.size))
        obtain ⟨⟨p0, p1, p2, p3⟩, _⟩ := bF.four
        by_cases h1 : nx < 0
        · go_wp2
          go_ret
          exact ⟨rfl, hB⟩
        by_cases h2 : 1152921504606846976 < nx
        · go_wp2
          go_ret
          exact ⟨rfl, hB⟩
        go_wp2_with fail; refine (TakeN_any mi mb nx l _ _ nV (by omega) HD.out (by omega) (by omega)).mono ?_; rintro e w5 ⟨y5, rfl, hnew⟩
        have b5 := hnew.2
        have nG := new_nds hnew (nV.below b5).all
        obtain ⟨a5, c5, rfl⟩ := nds_slice nG
        clear hnew p0 p1 p2 p3
        (replace bX := bX.next b5; replace hx := hx.below b5; replace bF := bF.next b5; replace nV := nV.below b5; replace hB := hB.trans (b5.mono hB.size))
        have hS1 := alloc_below w5 (.cells (fsC mi mb (nx + 1) (.slice a5 l.length c5)) 25)
        have hS2 := hS1.alloc hS1.size (.cells (fsC mi mb (nx + 1) (.slice a l.length ca)) 25)
        obtain ⟨⟨p0, p1, p2, p3⟩, _⟩ := bF.four
        obtain ⟨⟨q0, q1, q2, q3⟩, _⟩ := (bF.next hS1).four
        obtain ⟨⟨r0, r1, r2, r3⟩, _⟩ := (bF.next hS2).four
        have hS3 := hS1.alloc hS1.size (.cells (fsC mi mb nx (.slice a l.length ca)) 25)
        obtain ⟨⟨t0, t1, t2, t3⟩, _⟩ := (bF.next hS3).four
        obtain ⟨⟨g0, g1, g2, g3⟩, _⟩ := ((Blk.new w5 25 (fsC mi mb (nx + 1) (.slice a5 l.length c5))).alloc (.cells (fsC mi mb (nx + 1) (.slice a l.length ca)) 25)).four
        have ne1 : ¬ (w.heap.size = w5.heap.size) := by have := bF.lt; omega
        have ne2 : ¬ (w5.heap.size = w.heap.size) := by omega
        have ne3 : ¬ (w.heap.size = w5.heap.size + 1) := by have := bF.lt; omega
        have ne4 : ¬ (w5.heap.size + 1 = w.heap.size) := by omega
        go_wp2_with fail
        refine (tab_same mi mb (nx + 1) l _ _ _ (nG.below hS2) (nV.below hS2)).mono ?_
        rintro e w6 ⟨rfl, b6⟩
        have hB6 := hB.trans ((hS2.trans (b6.mono hS2.size)).mono hB.size)
        go_wp2
        go_ret
        exact ⟨rfl, hB6⟩
    · go_enter Try.func5, Try.ntmps5
      go_wp2_with fail; refine (awake_any _).mono ?_; rintro e w1 ⟨rfl, b1⟩
      (replace bX := bX.next b1; replace hx := hx.below b1; replace bF := bF.next b1; replace nV := nV.below b1; replace hB := hB.trans (b1.mono hB.size))
      obtain ⟨⟨p0, p1, p2, p3⟩, _⟩ := bF.four
      go_wp2_with fail; refine (fewT_any mi mb nx l _ _ nV).mono ?_; rintro e w2 ⟨rfl, b2⟩
      (replace bX := bX.next b2; replace hx := hx.below b2; replace bF := bF.next b2; replace nV := nV.below b2; replace hB := hB.trans (b2.mono hB.size))
      rw [hf]
      clear p0 p1 p2 p3
      obtain ⟨⟨p0, p1, p2, p3⟩, _⟩ := bF.four
      go_wp2_with fail; refine (riseT_any mi mb nx l _ _ nV (by omega)).mono ?_; rintro e w3 ⟨rfl, b3⟩
      (replace bX := bX.next b3; replace hx := hx.below b3; replace bF := bF.next b3; replace nV := nV.below b3; replace hB := hB.trans (b3.mono hB.size))
      rw [hr]
      obtain ⟨⟨s0, s1, s2, s3, s4, s5⟩, _⟩ := bX.six
      dsimp only at s0 s1 s2 s3 s4 s5
      go_wp2_with fail; refine (awake_any _).mono ?_; rintro e w9 ⟨rfl, b9⟩
      go_wp2
      go_ret
      exact ⟨rfl, hB.trans (b9.mono hB.size)⟩
  · go_enter Try.func5, Try.ntmps5
    go_wp2_with fail; refine (awake_any _).mono ?_; rintro e w1 ⟨rfl, b1⟩
    (replace bX := bX.next b1; replace hx := hx.below b1; replace bF := bF.next b1; replace nV := nV.below b1; replace hB := hB.trans (b1.mono hB.size))
    obtain ⟨⟨p0, p1, p2, p3⟩, _⟩ := bF.four
    go_wp2_with fail; refine (fewT_any mi mb nx l _ _ nV).mono ?_; rintro e w2 ⟨rfl, b2⟩
    (replace bX := bX.next b2; replace hx := hx.below b2; replace bF := bF.next b2; replace nV := nV.below b2; replace hB := hB.trans (b2.mono hB.size))
    rw [hf]
    clear p0 p1 p2 p3
    obtain ⟨⟨p0, p1, p2, p3⟩, _⟩ := bF.four
    go_wp2_with fail; refine (riseT_any mi mb nx l _ _ nV (by omega)).mono ?_; rintro e w3 ⟨rfl, b3⟩
    (replace bX := bX.next b3; replace hx := hx.below b3; replace bF := bF.next b3; replace nV := nV.below b3; replace hB := hB.trans (b3.mono hB.size))
    rw [hr]
    obtain ⟨⟨s0, s1, s2, s3, s4, s5⟩, _⟩ := bX.six
    dsimp only at s0 s1 s2 s3 s4 s5
    go_wp2_with fail; refine (awake_any _).mono ?_; rintro e w9 ⟨rfl, b9⟩
    go_wp2
    go_ret
    exact ⟨rfl, hB.trans (b9.mono hB.size)⟩

namespace LTableSets
set_option maxRecDepth 100000 in
theorem lifted (os : Os) (started : os.Started) (H : Type) (enc : TypeId × Value → H) :
    ReturnsInHanded {} Try.checked os 5 .any (Rows.tableSetsSpec.pre6 enc Try.prog Try.f5 Rows.tableSetsRow.domain false) (Rows.tableSetsSpec.post enc Try.prog Try.f5 false true false false) := by
  refine returnsInHanded_of_change (C := Try.checked) (by kernel_rfl) started (by kernel_rfl) Try.func5
    (ChangeSpec.witness6 (enc := enc) (C := Try.checked) false ⟨#[], #[.agg #[.int .i64 0, .int .i64 0, .int .i64 0, .slice none 0 0], .agg #[.int .i64 0, .int .i64 0, .int .i64 0, .string ⟨#[]⟩, .int .i64 0, .slice none 0 0]], []⟩ 8 (by kernel_rfl) (by kernel_rfl) (by kernel_rfl) (by kernel_rfl)) ?_
  intro W base args ds gs before hval0 hW hcnd _
  have hval : ∀ (j : Nat) t v, Try.f5.params[j]? = some t → args[j]? = some v → Value.okWide Try.prog W .any base t v := hval0
  have hW' := hW
  obtain ⟨p, q, hA0, hV, rfl, hfz, hnd⟩ := hW
  have hA : DataW.TrodAll enc Try.prog W 0 (fun _ => true) true Try.f5.params.toList args.toList ds p := hA0
  rw [Try.params5] at hA hval
  obtain ⟨v0, vs0, d0, ds0, p0, q0, hargs, rfl, rfl, k0, r0⟩ := trodAll_cons hA
  obtain ⟨v1, vs1, d1, ds1, p1, q1, rfl, rfl, rfl, k1, r1⟩ := trodAll_cons r0
  obtain ⟨rfl, rfl, rfl⟩ := trodAll_nil r1
  obtain rfl : args = #[v0, v1] := by cases args; simp_all
  obtain ⟨rfl, rfl⟩ := trodVars_none hV
  have ok0 := hval 0 25 v0 rfl rfl
  have ok1 := hval 1 35 v1 rfl rfl
  have lt0 : ∀ x ∈ p0, x.block < W.heap.size := by obtain ⟨m, hm⟩ := k0; exact DataW.trod_lt m _ _ _ hm
  have lt1 : ∀ x ∈ p1, x.block < W.heap.size := by obtain ⟨m, hm⟩ := k1; exact DataW.trod_lt m _ _ _ hm
  have C : Calls Try.prog 5 #[v0, v1] W fun e w' => e = .returned (.bool true) ∧ Below W.heap.size W w' := by
    clear hA0 hval0 hval hW' hcnd hV hfz hnd
    obtain ⟨mi, mb, nx, x, l, rfl, hx⟩ := fs_of_trod k0 ok0
    obtain ⟨y, rfl, hy, hyd, _⟩ := nd_of_trod k1 ⟨_, ok1⟩
    exact lawSets mi mb nx l y x W hx hy hyd
  refine C.mono fun e W' ⟨he, bel⟩ => ?_
  subst he
  exact ⟨_, rfl, _, _, _, [], _, [], hW', trodAll_mk1 (shut_bool Try.underlying4 _), (trodAll_cons_mk (Below.trod laidOut (by kernel_rfl) (of_decide_eq_true (by kernel_rfl)) k0 bel lt0) (trodAll_cons_mk (Below.trod laidOut (by kernel_rfl) (of_decide_eq_true (by kernel_rfl)) k1 bel lt1) trodAll_mk0)), rfl, bel.frame _, fun h => by cases h⟩
theorem proved : Rows.TableSetsSaid :=
  OpenClaim.holds_of_wide 5 Try.f5 rfl rfl rfl rfl rfl rfl rfl ⟨rfl, rfl, rfl, rfl, rfl⟩ rfl rfl rfl rfl rfl (by kernel_rfl) Try.func5 (by kernel_rfl)
    (of_decide_eq_true (by kernel_rfl)) (by unfold Func.isWrapper; first | (rw [if_pos (by decide +kernel)]; kernel_rfl) | (rw [if_neg (by decide +kernel)]; exact ⟨rfl, rfl⟩))
    (fun os started H enc _ => lifted os started H enc)
#print axioms proved
end LTableSets
end Go.Proofs.Ytjdpkienljenhaa
