/- Walks: the document's Name. -/
import Derived.Test.YtkdmfeikikmiiaaGreatQMWalkD07
import Derived.Test.YtkdmfeikikmiiaaGreatQMWalkB03
import Derived.Deep.RegionWith
set_option linter.unusedVariables false
set_option linter.unusedSimpArgs false
namespace Go.Proofs.YtkdmfeikikmiiaaGreat
open Go.RowKit
set_option maxHeartbeats 8000000 in
set_option maxRecDepth 100000 in
theorem refName_any (mi mb nx : Int) (l : List Nd) (s : Sp) (i : Int) (v : Value) (w : World) (hv : Nds w v l) (hr : riseP l) (hso : sortP (getN l s.dir).ents) (hel : (getN l s.dir).ents.length ≤ 1000) (hl : l.length ≤ 1000) (hln : -4611686018427387904 ≤ (getN l i).links ∧ (getN l i).links ≤ 4611686018427387904) :
    Calls Tryz.prog 59 #[.agg (fsC mi mb nx v), .agg (spC s), .int .i64 i] w fun e w' => ∃ y ev, e = .returned (.agg (fsC mi mb nx y)) ∧ MadeFs w v l w' y (naL l s.dir s.name i ev) ∧ Below w.heap.size w w' := by
  obtain ⟨a, ca, rfl⟩ := nds_slice hv
  obtain ⟨sd, sn, si⟩ := s
  dsimp only at hso hel hln ⊢
  have bF := ((Blk.new w 28 (fsC mi mb nx (.slice a l.length ca))).alloc (.cells (spC ⟨sd, sn, si⟩) 81)).alloc (.cells (fsC 0 0 0 (.slice none 0 0)) 28)
  have bS := (Blk.new (w.alloc (.cells (fsC mi mb nx (.slice a l.length ca)) 28)) 81 (spC ⟨sd, sn, si⟩)).alloc (.cells (fsC 0 0 0 (.slice none 0 0)) 28)
  have bR := Blk.new ((w.alloc (.cells (fsC mi mb nx (.slice a l.length ca)) 28)).alloc (.cells (spC ⟨sd, sn, si⟩) 81)) 28 (fsC 0 0 0 (.slice none 0 0))
  have hB0 : Below w.heap.size w (((w.alloc (.cells (fsC mi mb nx (.slice a l.length ca)) 28)).alloc (.cells (spC ⟨sd, sn, si⟩) 81)).alloc (.cells (fsC 0 0 0 (.slice none 0 0)) 28)) := (((Below.refl _ w).alloc (Nat.le_refl _) _).alloc (by simp) _).alloc (by simp; omega) _
  simp only [World.size_alloc] at bS bR
  have HV := Lib.hid hv
  clear hv
  have hG := refGetT_any mi mb nx sd l _ _ (HV.out.below hB0)
  have hEG := fun W (h : EntsAll W l) => get_ents h sd
  have hEX := fun W (h : EntsAll W l) => get_ents h i
  have hGX := fun W (h : Nds W (.slice a l.length ca) l) => refGetT_any mi mb nx i l _ W h
  have hP : ∀ ev, naL l sd sn i ev = setN (setN l (moreD (getN l sd) sn i ev)) (linkX (getN l i) ((getN l i).links + 1)) := fun _ => rfl
  unfold moreD linkX at hP
  obtain ⟨ag, ng, cg, hgs⟩ := get_slice HV.out sd
  obtain ⟨ax, nxx, cx, hxs⟩ := get_slice HV.out i
  generalize hasN l i = hs2 at *
  generalize hasN l sd = hs1 at *
  generalize getN l i = X at *
  generalize getN l sd = G at *
  obtain ⟨gi, gk, gl, gd, gp, ge, gn⟩ := G
  obtain ⟨xi, xk, xl, xd, xp, xe, xn⟩ := X
  dsimp only at hgs hxs hEG hEX hP hso hel hln
  subst hgs hxs
  have HP := Lib.hid hP
  have HEG := Lib.hid hEG
  have HEX := Lib.hid hEX
  clear hP hEG hEX
  obtain ⟨⟨p0, p1, p2, p3⟩, _⟩ := bF.four
  obtain ⟨⟨s0, s1, s2⟩, _⟩ := bS.three
  dsimp only at s0 s1 s2
  go_enter Tryz.func59, Tryz.ntmps59
  go_wp2_with fail
  refine hG.mono ?_
  rintro e w1 ⟨rfl, b1⟩
  clear hG p0 p1 p2 p3 s0 s1 s2
  have b2 := b1.trans ((alloc_below w1 (.cells (ndC ⟨gi, gk, gl, gd, gp, .slice ag ng cg, gn⟩) 49)).mono b1.size)
  have bD := Blk.new w1 49 (ndC ⟨gi, gk, gl, gd, gp, .slice ag ng cg, gn⟩)
  have hDl : w.heap.size + 1 + 1 < w1.heap.size := (bR.next b1).lt
  replace bF := bF.next b2
  replace bS := bS.next b2
  replace bR := bR.next b2
  replace hB0 := hB0.trans (b2.mono hB0.size)
  clear b1 b2
  obtain ⟨⟨p0, p1, p2, p3⟩, _⟩ := bF.four
  obtain ⟨⟨s0, s1, s2⟩, _⟩ := bS.three
  dsimp only at s0 s1 s2
  go_wp2_with fail
  refine (hGX _ (HV.out.below hB0)).mono ?_
  rintro e w2 ⟨rfl, b1⟩
  clear hGX p0 p1 p2 p3 s0 s1 s2
  have b2 := b1.trans ((alloc_below w2 (.cells (ndC ⟨xi, xk, xl, xd, xp, .slice ax nxx cx, xn⟩) 49)).mono b1.size)
  have bX := Blk.new w2 49 (ndC ⟨xi, xk, xl, xd, xp, .slice ax nxx cx, xn⟩)
  have hXl : w1.heap.size < w2.heap.size := (bD.next b1).lt
  replace bF := bF.next b2
  replace bS := bS.next b2
  replace bR := bR.next b2
  replace bD := bD.next b2
  replace hB0 := hB0.trans (b2.mono hB0.size)
  clear b1 b2
  obtain ⟨⟨x0, x1, x2, x3, x4, x5⟩, _⟩ := bD.six
  obtain ⟨⟨s0, s1, s2⟩, _⟩ := bS.three
  dsimp only at s0 s1 s2 x0 x1 x2 x3 x4 x5
  have hWi := refWith_any gn sn i _ _ (HEG.out _ (HV.out.below hB0).all) hso (by omega)
  go_wp2_with fail
  refine hWi.mono ?_
  rintro e w3 ⟨vn, rfl, hown, b3⟩
  clear hWi s0 s1 s2 x0 x1 x2 x3 x4 x5
  obtain ⟨an, cn, rfl⟩ := own_slice hown
  have hoB : w2.heap.size < (w2.alloc (.cells (ndC ⟨xi, xk, xl, xd, xp, .slice ax nxx cx, xn⟩) 49)).heap.size := by simp
  replace bF := bF.next b3
  replace bS := bS.next b3
  replace bR := bR.next b3
  replace bD := bD.next b3
  replace bX := bX.next b3
  replace hB0 := hB0.trans (b3.mono hB0.size)
  clear b3
  generalize withB gn sn i = m at *
  obtain ⟨⟨x0, x1, x2, x3, x4, x5⟩, f0, f1, f2, f3, f4, f5⟩ := bD.six
  dsimp only at x0 x1 x2 x3 x4 x5
  have bD5 := bD.set 5 (.slice an m.length cn)
  rw [nd_set5 gi gk gl gd gp (.slice ag ng cg) (.slice an m.length cn) gn m] at bD5
  have bF5 := bF.other (B2 := w1.heap.size) (i := 5) (by omega) (.slice an m.length cn)
  have bS5 := bS.other (B2 := w1.heap.size) (i := 5) (by omega) (.slice an m.length cn)
  have bR5 := bR.other (B2 := w1.heap.size) (i := 5) (by omega) (.slice an m.length cn)
  have bX5 := bX.other (B2 := w1.heap.size) (i := 5) (by omega) (.slice an m.length cn)
  have hB5 := hB0.setCell (p := ⟨w1.heap.size, 5, none⟩) (by show w.heap.size ≤ w1.heap.size; omega) (.slice an m.length cn)
  generalize (w2.alloc (.cells (ndC ⟨xi, xk, xl, xd, xp, .slice ax nxx cx, xn⟩) 49)).heap.size = NB at *
  have hown5 := World.ownsRow.kept hown (grownBy_set w3 w1.heap.size 5 (.slice an m.length cn)) (own_not hown (by omega))
  generalize hw5 : World.setCell w3 ⟨w1.heap.size, 5, none⟩ (.slice an m.length cn) = w5 at *
  clear bF bS bR bD bX hB0 hown
  generalize w1.heap.size = BD at *
  generalize w2.heap.size = BX at *
  have hwx : IntKind.i64.wrap (xl + 1) = xl + 1 := by rw [IntKind.wrap_i64]; omega
  obtain ⟨⟨y0, y1, y2, y3, y4, y5⟩, g0, g1, g2, g3, g4, g5⟩ := bX5.six
  dsimp only at y0 y1 y2 y3 y4 y5
  have bX6 := bX5.set 2 (.int .i64 (xl + 1))
  rw [nd_set2 xi xk xl (xl + 1)] at bX6
  have bF6 := bF5.other (B2 := BX) (i := 2) (by omega) (.int .i64 (xl + 1))
  have bS6 := bS5.other (B2 := BX) (i := 2) (by omega) (.int .i64 (xl + 1))
  have bR6 := bR5.other (B2 := BX) (i := 2) (by omega) (.int .i64 (xl + 1))
  have bD6 := bD5.other (B2 := BX) (i := 2) (by omega) (.int .i64 (xl + 1))
  have hB6 := hB5.setCell (p := ⟨BX, 2, none⟩) (by show w.heap.size ≤ BX; omega) (.int .i64 (xl + 1))
  have hown6 := World.ownsRow.kept hown5 (grownBy_set w5 BX 2 (.int .i64 (xl + 1))) (own_not hown5 (by omega))
  generalize hw6 : World.setCell w5 ⟨BX, 2, none⟩ (.int .i64 (xl + 1)) = w6 at *
  clear bF5 bS5 bR5 bD5 bX5 hB5 hown5
  have hq0 : Below w6.heap.size w6 w6.drew := (Below.refl _ _).drew
  have hq := hq0
  have HMK : ∀ W, Below w6.heap.size w6 W → (W.cell? ⟨BX, 0, none⟩ = some (.int .i64 xi) ∧ W.cell? ⟨BX, 1, none⟩ = some (.int .i64 xk) ∧ W.cell? ⟨BX, 2, none⟩ = some (.int .i64 (xl + 1)) ∧ W.cell? ⟨BX, 3, none⟩ = some (.string ⟨xd.toArray⟩) ∧ W.cell? ⟨BX, 4, none⟩ = some (.int .i64 xp) ∧ W.cell? ⟨BX, 5, none⟩ = some (.slice ax nxx cx)) := fun W h => (bX6.next h).six.1
  have hEN6 := own_ents hown6
  have hS1 := refSetT_any mi mb nx l ⟨gi, gk, gl, gd, gp, .slice an m.length cn, m⟩ _ w6.drew (HV.out.below (hB6.trans (hq0.mono hB6.size))) (hEN6.below hq0) hr (by omega)
  have hr1 : riseP (setN l ⟨gi, gk, gl, gd, gp, .slice an m.length cn, m⟩) := set_rise _ hr
  have hl1 := setN_len l ⟨gi, gk, gl, gd, gp, .slice an m.length cn, m⟩
  have hmem1 : ∀ z ∈ setN l ⟨gi, gk, gl, gd, gp, .slice an m.length cn, m⟩, z = ⟨gi, gk, gl, gd, gp, .slice an m.length cn, m⟩ ∨ z ∈ l := fun z hz => mem_setN hz
  have HN := Lib.hid (HP.out (.slice an m.length cn))
  clear HP
  generalize setN l ⟨gi, gk, gl, gd, gp, .slice an m.length cn, m⟩ = l1 at *
  have HM1 := Lib.hid hmem1
  clear hmem1
  have hRl : w.heap.size + 1 + 1 < w6.heap.size := bR6.lt
  go_wp2_with fail
  clear y0 y1 y2 y3 y4 y5 x0 x1 x2 x3 x4 x5 f0 f1 f2 f3 f4 f5 g0 g1 g2 g3 g4 g5
  have bFd := bF6.next hq0
  have bDd := bD6.next hq0
  obtain ⟨⟨p0, p1, p2, p3⟩, _⟩ := bFd.four
  obtain ⟨⟨y0, y1, y2, y3, y4, y5⟩, _⟩ := bDd.six
  dsimp only at y0 y1 y2 y3 y4 y5
  obtain ⟨x0, x1, x2, x3, x4, x5⟩ := HMK _ hq0
  go_region_with (first
    | (go_at_call 84; refine (refSetT_any mi mb nx l1 ⟨xi, xk, xl + 1, xd, xp, .slice ax nxx cx, xn⟩ _ _ n8 (HEX.out _ (HV.out.below (hB6.trans (hq.mono hB6.size))).all) hr1 (by omega)).mono ?_; rintro e w9 ⟨v9, rfl, hnew2⟩; obtain ⟨a9, c9, rfl⟩ := own_slice hnew2.1; have b9 := hnew2.2; have hq9 := hq; have hq := hq.trans (b9.mono hq.size); have bR9 := bR6.next hq; obtain ⟨_, e0, e1, e2, e3⟩ := bR9.four; obtain ⟨W', hW', hb4, hg4⟩ := bR9.put4 (.int .i64 mi) (.int .i64 mb) (.int .i64 nx) (.slice a9 (setN l1 ⟨xi, xk, xl + 1, xd, xp, .slice ax nxx cx, xn⟩).length c9))
    | (go_at_call 84; refine hS1.mono ?_; rintro e w8 ⟨v8, rfl, hnew⟩; obtain ⟨a8, c8, rfl⟩ := own_slice hnew.1; have b8 := hnew.2; have hq := hq.trans (b8.mono hq.size); have n8 := new_nds hnew (fun z hz => (HM1.out z hz).elim (fun h => by rw [h]; exact hEN6.below hq) (fun h => (HV.out.below (hB6.trans (hq.mono hB6.size))).all z h)); clear p0 p1 p2 p3 y0 y1 y2 y3 y4 y5 x0 x1 x2 x3 x4 x5; obtain ⟨x0, x1, x2, x3, x4, x5⟩ := HMK _ hq))
  all_goals go_wp2
  all_goals
    have hbl := below_grown (hB6.trans (hq.mono hB6.size)) hg4 (Nat.le_refl _) (by omega)
    have hsz9 := hq9.size
    have hownE := own_keep hown6 hq
    have hNW : MadeFs w (.slice a l.length ca) l W' (.slice a9 (setN l1 ⟨xi, xk, xl + 1, xd, xp, .slice ax nxx cx, xn⟩).length c9) (setN l1 ⟨xi, xk, xl + 1, xd, xp, .slice ax nxx cx, xn⟩) := fun W hkW hvW => by
      have hEW := own_ents (own_kept (hownE.kept hg4 (own_not hownE (by omega))) hkW (by omega))
      refine own_nds (own_kept (hnew2.1.kept hg4 (own_not hnew2.1 (by omega))) hkW (by omega)) fun z hz => ?_
      rcases mem_setN hz with rfl | h
      · exact HEX.out W hvW.all
      rcases HM1.out z h with rfl | h
      · exact hEW
      · exact hvW.all z h
    obtain ⟨⟨r0, r1, r2, r3⟩, _⟩ := hb4.four
    refine bodyPost_ret (v := .agg (fsC mi mb nx (.slice a9 (setN l1 ⟨xi, xk, xl + 1, xd, xp, .slice ax nxx cx, xn⟩).length c9))) (by simp [results, Tryz.f59, go_sem, r0, r1, r2, r3]) rfl ?_
    exact ⟨_, .slice an m.length cn, rfl, by rw [HN.out]; exact hNW, hbl⟩
end Go.Proofs.YtkdmfeikikmiiaaGreat
