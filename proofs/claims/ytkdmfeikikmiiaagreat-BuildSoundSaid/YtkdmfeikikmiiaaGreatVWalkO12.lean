/- Walks: the program's Unname and Name. -/
import Derived.Test.YtkdmfeikikmiiaaGreatVWalkD12
import Derived.Test.YtkdmfeikikmiiaaGreatVWalkO11
import Derived.Test.YtkdmfeikikmiiaaGreatVMWalkB05
import Derived.Test.YtkdmfeikikmiiaaGreatVWalkF05
set_option linter.unusedVariables false
set_option linter.unusedSimpArgs false
namespace Go.Proofs.YtkdmfeikikmiiaaGreat
open Go.RowKit
theorem links_calm {mi mb nx : Int} {l : List Nd} (h : SoundP mi mb nx l) (hc : Calm l) (i : Int) : 0 ≤ (getN l i).links ∧ (getN l i).links ≤ 1000000 := by
  cases hh : hasN l i
  · rw [getN_none hh]; exact ⟨Int.le_refl _, by decide⟩
  · have h1 := h.links _ (get_mem hh).1
    have h2 := names_ents l (getN l i).ino
    have h3 := ents_few (L := l) (m := 1000) (fun x hx => (hc.size x hx).1)
    have h4 := hc.len
    omega
set_option maxHeartbeats 8000000 in
set_option maxRecDepth 100000 in
theorem Unname_any (mi mb nx : Int) (l : List Nd) (s : Sp) (v : Value) (w : World) (hv : Nds w v l) (hok : OkS mi mb nx l) (hg : Gone l s.dir s.name s.ino) (hn : s.name.length ≤ 255) :
    Calls Tryz.prog 80 #[.agg (fsC mi mb nx v), .agg (spC s)] w fun e w' => ∃ y ev, e = .returned (.agg (fsC mi mb nx y)) ∧ MadeFs w v l w' y (unL l s.dir s.name s.ino ev) ∧ Below w.heap.size w w' := by
  obtain ⟨a, ca, rfl⟩ := nds_slice hv
  obtain ⟨sd, sn, si⟩ := s
  dsimp only at hg hn ⊢
  have hc := hok.calm
  have hso := sound_of hok.check
  have bF := ((Blk.new w 28 (fsC mi mb nx (.slice a l.length ca))).alloc (.cells (spC ⟨sd, sn, si⟩) 81)).alloc (.cells (fsC 0 0 0 (.slice none 0 0)) 28)
  have bS := (Blk.new (w.alloc (.cells (fsC mi mb nx (.slice a l.length ca)) 28)) 81 (spC ⟨sd, sn, si⟩)).alloc (.cells (fsC 0 0 0 (.slice none 0 0)) 28)
  have bR := Blk.new ((w.alloc (.cells (fsC mi mb nx (.slice a l.length ca)) 28)).alloc (.cells (spC ⟨sd, sn, si⟩) 81)) 28 (fsC 0 0 0 (.slice none 0 0))
  have hB0 : Below w.heap.size w (((w.alloc (.cells (fsC mi mb nx (.slice a l.length ca)) 28)).alloc (.cells (spC ⟨sd, sn, si⟩) 81)).alloc (.cells (fsC 0 0 0 (.slice none 0 0)) 28)) := (((Below.refl _ w).alloc (Nat.le_refl _) _).alloc (by simp) _).alloc (by simp; omega) _
  simp only [World.size_alloc] at bS bR
  have HV := Lib.hid hv
  have HC := Lib.hid hc
  have hG := GetN_any mi mb nx sd l _ _ (hv.below hB0) hc.rise (by have := hc.len; omega) (calm_data hc)
  have hEG := fun W (h : EntsAll W l) => get_ents h sd
  have hEX := fun W (h : EntsAll W l) => get_ents h si
  have hsg := (calm_ents hc sd).1
  have hlg := (calm_ents hc sd).2.1
  have hshg := (calm_ents hc sd).2.2
  have hdg := (calm_get hc sd).2.2.1
  have hdx := (calm_get hc si).2.2.1
  have hln := links_calm hso hc si
  have hXi : (getN l si).ino = si := (get_mem (gone_has hso hg)).2
  have hXs : ∀ ev, getN (setN l (lessD (getN l sd) sn ev)) si = getN l si := fun ev => get_set_ne hc.rise (by rw [less_ino (dir_parts (gone_dir hso hg)).1]; exact gone_ne hg)
  have hP0 := fun ev h => unL_last (l := l) (d := sd) (n := sn) (i := si) (ev := ev) h
  have hP1 := fun ev h => unL_more (l := l) (d := sd) (n := sn) (i := si) (ev := ev) h
  unfold lessD at hP0 hP1 hXs
  unfold linkX at hP1
  obtain ⟨ag, ng, cg, hgs⟩ := get_slice HV.out sd
  obtain ⟨ax, nxx, cx, hxs⟩ := get_slice HV.out si
  clear hv hok hg hso hc
  generalize hasN l sd = hs1 at *
  generalize getN l si = X at *
  generalize getN l sd = G at *
  obtain ⟨gi, gk, gl, gd, gp, ge, gn⟩ := G
  obtain ⟨xi, xk, xl, xd, xp, xe, xn⟩ := X
  dsimp only at hgs hxs hEG hEX hP0 hP1 hXi hXs hsg hlg hshg hdg hdx hln
  subst hgs hxs
  subst hXi
  have HP0 := Lib.hid hP0
  have HP1 := Lib.hid hP1
  have HXS := Lib.hid hXs
  have HEG := Lib.hid hEG
  have HEX := Lib.hid hEX
  clear hP0 hP1 hEG hEX hXs
  obtain ⟨⟨p0, p1, p2, p3⟩, _⟩ := bF.four
  obtain ⟨⟨s0, s1, s2⟩, _⟩ := bS.three
  dsimp only at s0 s1 s2
  go_enter Tryz.func80, Tryz.ntmps80
  go_wp2_with fail
  refine hG.mono ?_
  rintro e w1 ⟨rfl, b1⟩
  clear hG p0 p1 p2 p3 s0 s1 s2
  have b2 := b1.trans ((alloc_below w1 (.cells (ndC ⟨gi, gk, gl, gd, gp, .slice ag ng cg, gn⟩) 49)).mono b1.size)
  have bD := Blk.new w1 49 (ndC ⟨gi, gk, gl, gd, gp, .slice ag ng cg, gn⟩)
  have hDl : w.heap.size + 1 + 1 < w1.heap.size := (bR.next b1).lt
  replace bF := bF.next b2
  replace bS := bS.next b2
  replace bR := bR.next b2
  replace hB0 := hB0.trans (b2.mono hB0.size)
  clear b1 b2
  obtain ⟨⟨x0, x1, x2, x3, x4, x5⟩, _⟩ := bD.six
  obtain ⟨⟨s0, s1, s2⟩, _⟩ := bS.three
  dsimp only at s0 s1 s2 x0 x1 x2 x3 x4 x5
  have hWi := Without_any gn sn _ _ (HEG.out _ (HV.out.below hB0).all) hsg (by omega) hshg
  go_wp2_with fail
  refine hWi.mono ?_
  rintro e w3 ⟨gN, rfl, hgN, bN, b3⟩
  have hoB : w1.heap.size < (w1.alloc (.cells (ndC ⟨gi, gk, gl, gd, gp, .slice ag ng cg, gn⟩) 49)).heap.size := by simp
  clear hWi s0 s1 s2 x0 x1 x2 x3 x4 x5
  replace bF := bF.next b3
  replace bS := bS.next b3
  replace bR := bR.next b3
  replace bD := bD.next b3
  replace hB0 := hB0.trans (b3.mono hB0.size)
  have hdn : (withoutB gn sn).length ≤ 1000 := Nat.le_trans (without_len _ _) (by omega)
  clear b3
  generalize withoutB gn sn = m at *
  obtain ⟨⟨x0, x1, x2, x3, x4, x5⟩, f0, f1, f2, f3, f4, f5⟩ := bD.six
  dsimp only at x0 x1 x2 x3 x4 x5
  have bD5 := bD.set 5 (.slice (some ⟨gN, 0, none⟩) m.length m.length)
  rw [nd_set5 gi gk gl gd gp (.slice ag ng cg) (.slice (some ⟨gN, 0, none⟩) m.length m.length) gn m] at bD5
  have bF5 := bF.other (B2 := w1.heap.size) (i := 5) (by omega) (.slice (some ⟨gN, 0, none⟩) m.length m.length)
  have bS5 := bS.other (B2 := w1.heap.size) (i := 5) (by omega) (.slice (some ⟨gN, 0, none⟩) m.length m.length)
  have bR5 := bR.other (B2 := w1.heap.size) (i := 5) (by omega) (.slice (some ⟨gN, 0, none⟩) m.length m.length)
  have bN5 := bN.other (B2 := w1.heap.size) (i := 5) (by omega) (.slice (some ⟨gN, 0, none⟩) m.length m.length)
  have hB5 := hB0.setCell (p := ⟨w1.heap.size, 5, none⟩) (by show w.heap.size ≤ w1.heap.size; omega) (.slice (some ⟨gN, 0, none⟩) m.length m.length)
  have hgN2 : w.heap.size + 1 + 1 < gN := by omega
  clear bF bS bR bD bN hB0
  generalize hw5 : World.setCell w3 ⟨w1.heap.size, 5, none⟩ (.slice (some ⟨gN, 0, none⟩) m.length m.length) = w5 at *
  generalize w1.heap.size = BD at *
  have hEN5 := blk_ents bN5 (by unfold maxLen; omega)
  have hr := HC.out.rise
  have hle := HC.out.len
  have hda := calm_data HC.out
  have hS1 := SetN_any mi mb nx l ⟨gi, gk, gl, gd, gp, .slice (some ⟨gN, 0, none⟩) m.length m.length, m⟩ _ w5 (HV.out.below hB5) hEN5 hr (by omega) hda (Nat.le_trans hdg (by decide))
  have hr1 : riseP (setN l ⟨gi, gk, gl, gd, gp, .slice (some ⟨gN, 0, none⟩) m.length m.length, m⟩) := set_rise _ hr
  have hl1 := setN_len l ⟨gi, gk, gl, gd, gp, .slice (some ⟨gN, 0, none⟩) m.length m.length, m⟩
  have hmem1 : ∀ z ∈ setN l ⟨gi, gk, gl, gd, gp, .slice (some ⟨gN, 0, none⟩) m.length m.length, m⟩, z = ⟨gi, gk, gl, gd, gp, .slice (some ⟨gN, 0, none⟩) m.length m.length, m⟩ ∨ z ∈ l := fun z hz => mem_setN hz
  have HQ0 := Lib.hid (fun h => HP0.out (.slice (some ⟨gN, 0, none⟩) m.length m.length) h)
  have HQ1 := Lib.hid (fun h => HP1.out (.slice (some ⟨gN, 0, none⟩) m.length m.length) h)
  have hXS := HXS.out (.slice (some ⟨gN, 0, none⟩) m.length m.length)
  have hG2 := fun v W (h : Nds W v _) hr h1 h2 => GetN_any mi mb nx xi (setN l ⟨gi, gk, gl, gd, gp, .slice (some ⟨gN, 0, none⟩) m.length m.length, m⟩) v W h hr h1 h2
  rw [hXS] at hG2
  clear HP0 HP1 HXS hXS
  generalize setN l ⟨gi, gk, gl, gd, gp, .slice (some ⟨gN, 0, none⟩) m.length m.length, m⟩ = l1 at *
  generalize hasN l1 xi = hs2 at *
  have hda1 : ∀ z ∈ l1, z.data.length ≤ 281474976710656 := fun z hz => (hmem1 z hz).elim (fun h => by rw [h]; exact Nat.le_trans hdg (by decide)) (hda z)
  have HM1 := Lib.hid hmem1
  have HDA1 := Lib.hid hda1
  have HG2 := Lib.hid hG2
  clear hmem1 hda hda1 hG2
  obtain ⟨⟨p0, p1, p2, p3⟩, q0, q1, q2, q3⟩ := bF5.four
  obtain ⟨⟨d0, d1, d2, d3, d4, d5⟩, _⟩ := bD5.six
  dsimp only at d0 d1 d2 d3 d4 d5
  go_wp2_with fail
  refine hS1.mono ?_
  rintro e w7 ⟨v7, rfl, hnew⟩
  obtain ⟨a7, c7, rfl⟩ := own_slice hnew.1
  have b7 := hnew.2
  have hown7 := hnew.1
  have hRl : w.heap.size + 1 + 1 < w5.heap.size := bR5.lt
  have bF7 := bF5.next b7
  have bR7 := bR5.next b7
  have bS7 := bS5.next b7
  have bN7 := bN5.next b7
  have hB7 := hB5.trans (b7.mono hB5.size)
  have hsz7 := b7.size
  clear hS1 hnew b7 p0 p1 p2 p3 q0 q1 q2 q3 d0 d1 d2 d3 d4 d5 x0 x1 x2 x3 x4 x5 bF5 bR5 bS5 bD5 bN5 hB5 hEN5 f0 f1 f2 f3 f4 f5
  obtain ⟨_, f0, f1, f2, f3⟩ := bF7.four
  obtain ⟨w8, hw8, bF8, hg8⟩ := bF7.put4 (.int .i64 mi) (.int .i64 mb) (.int .i64 nx) (.slice a7 l1.length c7)
  have hsz8 := Nat.le_trans hsz7 hg8.size
  have bR8 := bR7.kept hg8 (by simp; omega)
  have bS8 := bS7.kept hg8 (by simp)
  have bN8 := bN7.kept hg8 (by simp; omega)
  have hB8 := below_grown hB7 hg8 (Nat.le_refl _) (Nat.le_refl _)
  have hown8 := hown7.kept hg8 (own_not hown7 (by omega))
  have hEN8 := blk_ents bN8 (by unfold maxLen; omega)
  have hN8 : Nds w8 (.slice a7 l1.length c7) l1 := own_nds hown8 fun z hz => (HM1.out z hz).elim (fun h => by rw [h]; exact hEN8) (fun h => (HV.out.below hB8).all z h)
  have hGX := HG2.out _ _ hN8 hr1 (by omega) HDA1.out
  generalize w5.heap.size = B7 at *
  clear hsz7 bF7 bR7 bS7 bN7 hB7 hown7 hg8 hEN8 HG2
  obtain ⟨⟨p0, p1, p2, p3⟩, _⟩ := bF8.four
  obtain ⟨⟨s0, s1, s2⟩, _⟩ := bS8.three
  dsimp only at s0 s1 s2
  go_wp2_with fail
  refine hGX.mono ?_
  rintro e w2 ⟨rfl, b1⟩
  clear hGX p0 p1 p2 p3 s0 s1 s2
  have b2 := b1.trans ((alloc_below w2 (.cells (ndC ⟨xi, xk, xl, xd, xp, .slice ax nxx cx, xn⟩) 49)).mono b1.size)
  have bX := Blk.new w2 49 (ndC ⟨xi, xk, xl, xd, xp, .slice ax nxx cx, xn⟩)
  have hXl : w.heap.size + 1 + 1 < w2.heap.size := (bR8.next b1).lt
  have hNl : gN < w2.heap.size := (bN8.next b1).lt
  have hB7l : B7 ≤ w2.heap.size := Nat.le_trans hsz8 b1.size
  have hne7 := own_far hown8 b1.size
  replace bF8 := bF8.next b2
  replace bR8 := bR8.next b2
  replace bN8 := bN8.next b2
  replace hN8 := hN8.below b2
  replace hown8 := own_keep hown8 b2
  replace hB8 := hB8.trans (b2.mono hB8.size)
  clear b1 b2 bS8 f0 f1 f2 f3 hw8
  have hwx : IntKind.i64.wrap (xl - 1) = xl - 1 := by rw [IntKind.wrap_i64]; omega
  obtain ⟨⟨y0, y1, y2, y3, y4, y5⟩, g0, g1, g2, g3, g4, g5⟩ := bX.six
  dsimp only at y0 y1 y2 y3 y4 y5
  have bX6 := bX.set 2 (.int .i64 (xl - 1))
  rw [nd_set2 xi xk xl (xl - 1)] at bX6
  have bF6 := bF8.other (B2 := w2.heap.size) (i := 2) (by omega) (.int .i64 (xl - 1))
  have bR6 := bR8.other (B2 := w2.heap.size) (i := 2) (by omega) (.int .i64 (xl - 1))
  have bN6 := bN8.other (B2 := w2.heap.size) (i := 2) (by omega) (.int .i64 (xl - 1))
  have hB6 := hB8.setCell (p := ⟨w2.heap.size, 2, none⟩) (by show w.heap.size ≤ w2.heap.size; omega) (.int .i64 (xl - 1))
  have hown6 := World.ownsRow.kept hown8 (grownBy_set _ w2.heap.size 2 (.int .i64 (xl - 1))) hne7
  have hEN6 := blk_ents bN6 (by unfold maxLen; omega)
  generalize hw6 : World.setCell (w2.alloc (.cells (ndC ⟨xi, xk, xl, xd, xp, .slice ax nxx cx, xn⟩) 49)) ⟨w2.heap.size, 2, none⟩ (.int .i64 (xl - 1)) = w6 at *
  have hN6 : Nds w6 (.slice a7 l1.length c7) l1 := own_nds hown6 fun z hz => (HM1.out z hz).elim (fun h => by rw [h]; exact hEN6) (fun h => (HV.out.below hB6).all z h)
  clear bF8 bR8 bN8 hB8 hown8 hN8 hEN6 hne7 hown6
  obtain ⟨⟨z0, z1, z2, z3, z4, z5⟩, _⟩ := bX6.six
  dsimp only at z0 z1 z2 z3 z4 z5
  obtain ⟨⟨p0, p1, p2, p3⟩, _⟩ := bF6.four
  by_cases h0 : xl - 1 = 0
  · have HN := Lib.hid (HQ0.out h0)
    have hz : ((xl - 1 : Int) == 0) = true := by rw [h0]; rfl
    have hDr := DropN_any mi mb nx xi l1 _ _ hN6 hr1 (by omega) HDA1.out
    clear h0 HQ0 HQ1 hN6
    go_wp2_with fail
    refine hDr.mono ?_
    rintro e w9 ⟨v9, rfl, hnew⟩
    obtain ⟨a9, c9, rfl⟩ := own_slice hnew.1
    have b9 := hnew.2
    have hB9 := hB6.trans (b9.mono hB6.size)
    have bR9 := bR6.next b9
    have bN9 := bN6.next b9
    have hRl8 := bR6.lt
    have hown9 := hnew.1
    clear p0 p1 p2 p3 z0 z1 z2 z3 z4 z5 y0 y1 y2 y3 y4 y5 g0 g1 g2 g3 g4 g5
    obtain ⟨_, e0, e1, e2, e3⟩ := bR9.four
    obtain ⟨W', hW', hb4, hg4⟩ := bR9.put4 (.int .i64 mi) (.int .i64 mb) (.int .i64 nx) (.slice a9 (dropN l1 xi).length c9)
    have bN10 := bN9.kept hg4 (by simp; omega)
    have hsz9 := b9.size
    have hbl := below_grown hB9 hg4 (Nat.le_refl _) (by omega)
    have hNW : MadeFs w (.slice a l.length ca) l W' (.slice a9 (dropN l1 xi).length c9) (dropN l1 xi) := fun W hkW hvW => by
      have hEW := blk_ents (show Blk W gN _ _ from (hkW.2 gN (by omega) bN10.lt).trans bN10) (by unfold maxLen; omega)
      refine own_nds (own_kept (hown9.kept hg4 (own_not hown9 hRl8)) hkW (by omega)) fun z hz => ?_
      rcases HM1.out z (mem_dropN hz) with rfl | h
      · exact hEW
      · exact hvW.all z h
    clear hDr hnew bF6 bR6 bX6 bN6 b9 hB9 bR9 bN9 bN10 hown9
    go_wp2
    obtain ⟨⟨r0, r1, r2, r3⟩, _⟩ := hb4.four
    refine bodyPost_ret (v := .agg (fsC mi mb nx (.slice a9 (dropN l1 xi).length c9))) (by simp [results, Tryz.f80, go_sem, r0, r1, r2, r3]) rfl ?_
    exact ⟨_, .slice (some ⟨gN, 0, none⟩) m.length m.length, rfl, by rw [HN.out]; exact hNW, hbl⟩
  · have HN := Lib.hid (HQ1.out h0)
    have hz : ((xl - 1 : Int) == 0) = false := by rw [beq_eq_false_iff_ne]; exact h0
    have hSe := SetN_any mi mb nx l1 ⟨xi, xk, xl - 1, xd, xp, .slice ax nxx cx, xn⟩ _ _ hN6 (HEX.out _ (HV.out.below hB6).all) hr1 (by omega) HDA1.out (Nat.le_trans hdx (by decide))
    clear h0 HQ0 HQ1 hN6
    go_wp2_with fail
    refine hSe.mono ?_
    rintro e w9 ⟨v9, rfl, hnew⟩
    obtain ⟨a9, c9, rfl⟩ := own_slice hnew.1
    have b9 := hnew.2
    have hB9 := hB6.trans (b9.mono hB6.size)
    have bR9 := bR6.next b9
    have bN9 := bN6.next b9
    have hRl8 := bR6.lt
    have hown9 := hnew.1
    clear p0 p1 p2 p3 z0 z1 z2 z3 z4 z5 y0 y1 y2 y3 y4 y5 g0 g1 g2 g3 g4 g5
    obtain ⟨_, e0, e1, e2, e3⟩ := bR9.four
    obtain ⟨W', hW', hb4, hg4⟩ := bR9.put4 (.int .i64 mi) (.int .i64 mb) (.int .i64 nx) (.slice a9 (setN l1 ⟨xi, xk, xl - 1, xd, xp, .slice ax nxx cx, xn⟩).length c9)
    have bN10 := bN9.kept hg4 (by simp; omega)
    have hsz9 := b9.size
    have hbl := below_grown hB9 hg4 (Nat.le_refl _) (by omega)
    have hNW : MadeFs w (.slice a l.length ca) l W' (.slice a9 (setN l1 ⟨xi, xk, xl - 1, xd, xp, .slice ax nxx cx, xn⟩).length c9) (setN l1 ⟨xi, xk, xl - 1, xd, xp, .slice ax nxx cx, xn⟩) := fun W hkW hvW => by
      have hEW := blk_ents (show Blk W gN _ _ from (hkW.2 gN (by omega) bN10.lt).trans bN10) (by unfold maxLen; omega)
      refine own_nds (own_kept (hown9.kept hg4 (own_not hown9 hRl8)) hkW (by omega)) fun z hz => ?_
      rcases mem_setN hz with rfl | h
      · exact HEX.out W hvW.all
      rcases HM1.out z h with rfl | h
      · exact hEW
      · exact hvW.all z h
    clear hSe hnew bF6 bR6 bX6 bN6 b9 hB9 bR9 bN9 bN10 hown9
    go_wp2
    obtain ⟨⟨r0, r1, r2, r3⟩, _⟩ := hb4.four
    refine bodyPost_ret (v := .agg (fsC mi mb nx (.slice a9 (setN l1 ⟨xi, xk, xl - 1, xd, xp, .slice ax nxx cx, xn⟩).length c9))) (by simp [results, Tryz.f80, go_sem, r0, r1, r2, r3]) rfl ?_
    exact ⟨_, .slice (some ⟨gN, 0, none⟩) m.length m.length, rfl, by rw [HN.out]; exact hNW, hbl⟩
set_option maxHeartbeats 8000000 in
set_option maxRecDepth 100000 in
theorem Name_any (mi mb nx : Int) (l : List Nd) (s : Sp) (i : Int) (v : Value) (w : World) (hv : Nds w v l) (hok : OkS mi mb nx l) (hg : Given l s.dir s.name i) :
    Calls Tryz.prog 79 #[.agg (fsC mi mb nx v), .agg (spC s), .int .i64 i] w fun e w' => ∃ y ev, e = .returned (.agg (fsC mi mb nx y)) ∧ MadeFs w v l w' y (naL l s.dir s.name i ev) ∧ Below w.heap.size w w' := by
  obtain ⟨a, ca, rfl⟩ := nds_slice hv
  obtain ⟨sd, sn, si⟩ := s
  dsimp only at hg ⊢
  have hn : sn.length ≤ 255 := by have := hg.may; simp [mayB] at this; omega
  have hc := hok.calm
  have hso := sound_of hok.check
  have bF := ((Blk.new w 28 (fsC mi mb nx (.slice a l.length ca))).alloc (.cells (spC ⟨sd, sn, si⟩) 81)).alloc (.cells (fsC 0 0 0 (.slice none 0 0)) 28)
  have bS := (Blk.new (w.alloc (.cells (fsC mi mb nx (.slice a l.length ca)) 28)) 81 (spC ⟨sd, sn, si⟩)).alloc (.cells (fsC 0 0 0 (.slice none 0 0)) 28)
  have bR := Blk.new ((w.alloc (.cells (fsC mi mb nx (.slice a l.length ca)) 28)).alloc (.cells (spC ⟨sd, sn, si⟩) 81)) 28 (fsC 0 0 0 (.slice none 0 0))
  have hB0 : Below w.heap.size w (((w.alloc (.cells (fsC mi mb nx (.slice a l.length ca)) 28)).alloc (.cells (spC ⟨sd, sn, si⟩) 81)).alloc (.cells (fsC 0 0 0 (.slice none 0 0)) 28)) := (((Below.refl _ w).alloc (Nat.le_refl _) _).alloc (by simp) _).alloc (by simp; omega) _
  simp only [World.size_alloc] at bS bR
  have HV := Lib.hid hv
  have HC := Lib.hid hc
  have hG := GetN_any mi mb nx sd l _ _ (hv.below hB0) hc.rise (by have := hc.len; omega) (calm_data hc)
  have hEG := fun W (h : EntsAll W l) => get_ents h sd
  have hEX := fun W (h : EntsAll W l) => get_ents h i
  have hsg := (calm_ents hc sd).1
  have hlg := (calm_ents hc sd).2.1
  have hshg := (calm_ents hc sd).2.2
  have hdg := (calm_get hc sd).2.2.1
  have hdx := (calm_get hc i).2.2.1
  have hln := links_calm hso hc i
  have hXi : (getN l i).ino = i := (get_mem hg.has).2
  have hXs : ∀ ev, getN (setN l (moreD (getN l sd) sn i ev)) i = getN l i := fun ev => get_set_ne hc.rise (by rw [show (moreD (getN l sd) sn i ev).ino = sd from (get_mem (dir_parts hg.dir).1).2]; exact given_ne hg)
  have hP : ∀ ev, naL l sd sn i ev = setN (setN l (moreD (getN l sd) sn i ev)) (linkX (getN l i) ((getN l i).links + 1)) := fun _ => rfl
  unfold moreD at hP hXs
  unfold linkX at hP
  obtain ⟨ag, ng, cg, hgs⟩ := get_slice HV.out sd
  obtain ⟨ax, nxx, cx, hxs⟩ := get_slice HV.out i
  clear hv hok hg hso hc
  generalize hasN l sd = hs1 at *
  generalize getN l i = X at *
  generalize getN l sd = G at *
  obtain ⟨gi, gk, gl, gd, gp, ge, gn⟩ := G
  obtain ⟨xi, xk, xl, xd, xp, xe, xn⟩ := X
  dsimp only at hgs hxs hEG hEX hP hXi hXs hsg hlg hshg hdg hdx hln
  subst hgs hxs
  subst hXi
  have HP := Lib.hid hP
  have HXS := Lib.hid hXs
  have HEG := Lib.hid hEG
  have HEX := Lib.hid hEX
  clear hP hEG hEX hXs
  obtain ⟨⟨p0, p1, p2, p3⟩, _⟩ := bF.four
  obtain ⟨⟨s0, s1, s2⟩, _⟩ := bS.three
  dsimp only at s0 s1 s2
  go_enter Tryz.func79, Tryz.ntmps79
  go_wp2_with fail
  refine hG.mono ?_
  rintro e w1 ⟨rfl, b1⟩
  clear hG p0 p1 p2 p3 s0 s1 s2
  have b2 := b1.trans ((alloc_below w1 (.cells (ndC ⟨gi, gk, gl, gd, gp, .slice ag ng cg, gn⟩) 49)).mono b1.size)
  have bD := Blk.new w1 49 (ndC ⟨gi, gk, gl, gd, gp, .slice ag ng cg, gn⟩)
  have hDl : w.heap.size + 1 + 1 < w1.heap.size := (bR.next b1).lt
  replace bF := bF.next b2
  replace bS := bS.next b2
  replace bR := bR.next b2
  replace hB0 := hB0.trans (b2.mono hB0.size)
  clear b1 b2
  obtain ⟨⟨x0, x1, x2, x3, x4, x5⟩, _⟩ := bD.six
  obtain ⟨⟨s0, s1, s2⟩, _⟩ := bS.three
  dsimp only at s0 s1 s2 x0 x1 x2 x3 x4 x5
  have hWi := With_any gn sn xi _ _ (HEG.out _ (HV.out.below hB0).all) hsg (by omega) hshg (by omega)
  go_wp2_with fail
  refine hWi.mono ?_
  rintro e w3 ⟨gN, rfl, hgN, bN, b3⟩
  have hoB : w1.heap.size < (w1.alloc (.cells (ndC ⟨gi, gk, gl, gd, gp, .slice ag ng cg, gn⟩) 49)).heap.size := by simp
  clear hWi s0 s1 s2 x0 x1 x2 x3 x4 x5
  replace bF := bF.next b3
  replace bS := bS.next b3
  replace bR := bR.next b3
  replace bD := bD.next b3
  replace hB0 := hB0.trans (b3.mono hB0.size)
  have hdn : (withB gn sn xi).length ≤ 1001 := Nat.le_trans (with_len _ _ _) (by omega)
  clear b3
  generalize withB gn sn xi = m at *
  obtain ⟨⟨x0, x1, x2, x3, x4, x5⟩, f0, f1, f2, f3, f4, f5⟩ := bD.six
  dsimp only at x0 x1 x2 x3 x4 x5
  have bD5 := bD.set 5 (.slice (some ⟨gN, 0, none⟩) m.length m.length)
  rw [nd_set5 gi gk gl gd gp (.slice ag ng cg) (.slice (some ⟨gN, 0, none⟩) m.length m.length) gn m] at bD5
  have bF5 := bF.other (B2 := w1.heap.size) (i := 5) (by omega) (.slice (some ⟨gN, 0, none⟩) m.length m.length)
  have bS5 := bS.other (B2 := w1.heap.size) (i := 5) (by omega) (.slice (some ⟨gN, 0, none⟩) m.length m.length)
  have bR5 := bR.other (B2 := w1.heap.size) (i := 5) (by omega) (.slice (some ⟨gN, 0, none⟩) m.length m.length)
  have bN5 := bN.other (B2 := w1.heap.size) (i := 5) (by omega) (.slice (some ⟨gN, 0, none⟩) m.length m.length)
  have hB5 := hB0.setCell (p := ⟨w1.heap.size, 5, none⟩) (by show w.heap.size ≤ w1.heap.size; omega) (.slice (some ⟨gN, 0, none⟩) m.length m.length)
  have hgN2 : w.heap.size + 1 + 1 < gN := by omega
  clear bF bS bR bD bN hB0
  generalize hw5 : World.setCell w3 ⟨w1.heap.size, 5, none⟩ (.slice (some ⟨gN, 0, none⟩) m.length m.length) = w5 at *
  generalize w1.heap.size = BD at *
  have hEN5 := blk_ents bN5 (by unfold maxLen; omega)
  have hr := HC.out.rise
  have hle := HC.out.len
  have hda := calm_data HC.out
  have hS1 := SetN_any mi mb nx l ⟨gi, gk, gl, gd, gp, .slice (some ⟨gN, 0, none⟩) m.length m.length, m⟩ _ w5 (HV.out.below hB5) hEN5 hr (by omega) hda (Nat.le_trans hdg (by decide))
  have hr1 : riseP (setN l ⟨gi, gk, gl, gd, gp, .slice (some ⟨gN, 0, none⟩) m.length m.length, m⟩) := set_rise _ hr
  have hl1 := setN_len l ⟨gi, gk, gl, gd, gp, .slice (some ⟨gN, 0, none⟩) m.length m.length, m⟩
  have hmem1 : ∀ z ∈ setN l ⟨gi, gk, gl, gd, gp, .slice (some ⟨gN, 0, none⟩) m.length m.length, m⟩, z = ⟨gi, gk, gl, gd, gp, .slice (some ⟨gN, 0, none⟩) m.length m.length, m⟩ ∨ z ∈ l := fun z hz => mem_setN hz
  have HN := Lib.hid (HP.out (.slice (some ⟨gN, 0, none⟩) m.length m.length))
  have hXS := HXS.out (.slice (some ⟨gN, 0, none⟩) m.length m.length)
  have hG2 := fun v W (h : Nds W v _) hr h1 h2 => GetN_any mi mb nx xi (setN l ⟨gi, gk, gl, gd, gp, .slice (some ⟨gN, 0, none⟩) m.length m.length, m⟩) v W h hr h1 h2
  rw [hXS] at hG2
  clear HP HXS hXS
  generalize setN l ⟨gi, gk, gl, gd, gp, .slice (some ⟨gN, 0, none⟩) m.length m.length, m⟩ = l1 at *
  generalize hasN l1 xi = hs2 at *
  have hda1 : ∀ z ∈ l1, z.data.length ≤ 281474976710656 := fun z hz => (hmem1 z hz).elim (fun h => by rw [h]; exact Nat.le_trans hdg (by decide)) (hda z)
  have HM1 := Lib.hid hmem1
  have HDA1 := Lib.hid hda1
  have HG2 := Lib.hid hG2
  clear hmem1 hda hda1 hG2
  obtain ⟨⟨p0, p1, p2, p3⟩, q0, q1, q2, q3⟩ := bF5.four
  obtain ⟨⟨d0, d1, d2, d3, d4, d5⟩, _⟩ := bD5.six
  dsimp only at d0 d1 d2 d3 d4 d5
  go_wp2_with fail
  refine hS1.mono ?_
  rintro e w7 ⟨v7, rfl, hnew⟩
  obtain ⟨a7, c7, rfl⟩ := own_slice hnew.1
  have b7 := hnew.2
  have hown7 := hnew.1
  have hRl : w.heap.size + 1 + 1 < w5.heap.size := bR5.lt
  have bF7 := bF5.next b7
  have bR7 := bR5.next b7
  have bS7 := bS5.next b7
  have bN7 := bN5.next b7
  have hB7 := hB5.trans (b7.mono hB5.size)
  have hsz7 := b7.size
  clear hS1 hnew b7 p0 p1 p2 p3 q0 q1 q2 q3 d0 d1 d2 d3 d4 d5 x0 x1 x2 x3 x4 x5 bF5 bR5 bS5 bD5 bN5 hB5 hEN5 f0 f1 f2 f3 f4 f5
  obtain ⟨_, f0, f1, f2, f3⟩ := bF7.four
  obtain ⟨w8, hw8, bF8, hg8⟩ := bF7.put4 (.int .i64 mi) (.int .i64 mb) (.int .i64 nx) (.slice a7 l1.length c7)
  have hsz8 := Nat.le_trans hsz7 hg8.size
  have bR8 := bR7.kept hg8 (by simp; omega)
  have bS8 := bS7.kept hg8 (by simp)
  have bN8 := bN7.kept hg8 (by simp; omega)
  have hB8 := below_grown hB7 hg8 (Nat.le_refl _) (Nat.le_refl _)
  have hown8 := hown7.kept hg8 (own_not hown7 (by omega))
  have hEN8 := blk_ents bN8 (by unfold maxLen; omega)
  have hN8 : Nds w8 (.slice a7 l1.length c7) l1 := own_nds hown8 fun z hz => (HM1.out z hz).elim (fun h => by rw [h]; exact hEN8) (fun h => (HV.out.below hB8).all z h)
  have hGX := HG2.out _ _ hN8 hr1 (by omega) HDA1.out
  generalize w5.heap.size = B7 at *
  clear hsz7 bF7 bR7 bS7 bN7 hB7 hown7 hg8 hEN8 HG2
  obtain ⟨⟨p0, p1, p2, p3⟩, _⟩ := bF8.four
  obtain ⟨⟨s0, s1, s2⟩, _⟩ := bS8.three
  dsimp only at s0 s1 s2
  go_wp2_with fail
  refine hGX.mono ?_
  rintro e w2 ⟨rfl, b1⟩
  clear hGX p0 p1 p2 p3 s0 s1 s2
  have b2 := b1.trans ((alloc_below w2 (.cells (ndC ⟨xi, xk, xl, xd, xp, .slice ax nxx cx, xn⟩) 49)).mono b1.size)
  have bX := Blk.new w2 49 (ndC ⟨xi, xk, xl, xd, xp, .slice ax nxx cx, xn⟩)
  have hXl : w.heap.size + 1 + 1 < w2.heap.size := (bR8.next b1).lt
  have hNl : gN < w2.heap.size := (bN8.next b1).lt
  have hB7l : B7 ≤ w2.heap.size := Nat.le_trans hsz8 b1.size
  have hne7 := own_far hown8 b1.size
  replace bF8 := bF8.next b2
  replace bR8 := bR8.next b2
  replace bN8 := bN8.next b2
  replace hN8 := hN8.below b2
  replace hown8 := own_keep hown8 b2
  replace hB8 := hB8.trans (b2.mono hB8.size)
  clear b1 b2 bS8 f0 f1 f2 f3 hw8
  have hwx : IntKind.i64.wrap (xl + 1) = xl + 1 := by rw [IntKind.wrap_i64]; omega
  obtain ⟨⟨y0, y1, y2, y3, y4, y5⟩, g0, g1, g2, g3, g4, g5⟩ := bX.six
  dsimp only at y0 y1 y2 y3 y4 y5
  have bX6 := bX.set 2 (.int .i64 (xl + 1))
  rw [nd_set2 xi xk xl (xl + 1)] at bX6
  have bF6 := bF8.other (B2 := w2.heap.size) (i := 2) (by omega) (.int .i64 (xl + 1))
  have bR6 := bR8.other (B2 := w2.heap.size) (i := 2) (by omega) (.int .i64 (xl + 1))
  have bN6 := bN8.other (B2 := w2.heap.size) (i := 2) (by omega) (.int .i64 (xl + 1))
  have hB6 := hB8.setCell (p := ⟨w2.heap.size, 2, none⟩) (by show w.heap.size ≤ w2.heap.size; omega) (.int .i64 (xl + 1))
  have hown6 := World.ownsRow.kept hown8 (grownBy_set _ w2.heap.size 2 (.int .i64 (xl + 1))) hne7
  have hEN6 := blk_ents bN6 (by unfold maxLen; omega)
  generalize hw6 : World.setCell (w2.alloc (.cells (ndC ⟨xi, xk, xl, xd, xp, .slice ax nxx cx, xn⟩) 49)) ⟨w2.heap.size, 2, none⟩ (.int .i64 (xl + 1)) = w6 at *
  have hN6 : Nds w6 (.slice a7 l1.length c7) l1 := own_nds hown6 fun z hz => (HM1.out z hz).elim (fun h => by rw [h]; exact hEN6) (fun h => (HV.out.below hB6).all z h)
  clear bF8 bR8 bN8 hB8 hown8 hN8 hEN6 hne7 hown6
  obtain ⟨⟨z0, z1, z2, z3, z4, z5⟩, _⟩ := bX6.six
  dsimp only at z0 z1 z2 z3 z4 z5
  obtain ⟨⟨p0, p1, p2, p3⟩, _⟩ := bF6.four
  have hSe := SetN_any mi mb nx l1 ⟨xi, xk, xl + 1, xd, xp, .slice ax nxx cx, xn⟩ _ _ hN6 (HEX.out _ (HV.out.below hB6).all) hr1 (by omega) HDA1.out (Nat.le_trans hdx (by decide))
  clear hN6
  go_wp2_with fail
  refine hSe.mono ?_
  rintro e w9 ⟨v9, rfl, hnew⟩
  obtain ⟨a9, c9, rfl⟩ := own_slice hnew.1
  have b9 := hnew.2
  have hB9 := hB6.trans (b9.mono hB6.size)
  have bR9 := bR6.next b9
  have bN9 := bN6.next b9
  have hRl8 := bR6.lt
  have hown9 := hnew.1
  clear p0 p1 p2 p3 z0 z1 z2 z3 z4 z5 y0 y1 y2 y3 y4 y5 g0 g1 g2 g3 g4 g5
  obtain ⟨_, e0, e1, e2, e3⟩ := bR9.four
  obtain ⟨W', hW', hb4, hg4⟩ := bR9.put4 (.int .i64 mi) (.int .i64 mb) (.int .i64 nx) (.slice a9 (setN l1 ⟨xi, xk, xl + 1, xd, xp, .slice ax nxx cx, xn⟩).length c9)
  have bN10 := bN9.kept hg4 (by simp; omega)
  have hsz9 := b9.size
  have hbl := below_grown hB9 hg4 (Nat.le_refl _) (by omega)
  have hNW : MadeFs w (.slice a l.length ca) l W' (.slice a9 (setN l1 ⟨xi, xk, xl + 1, xd, xp, .slice ax nxx cx, xn⟩).length c9) (setN l1 ⟨xi, xk, xl + 1, xd, xp, .slice ax nxx cx, xn⟩) := fun W hkW hvW => by
    have hEW := blk_ents (show Blk W gN _ _ from (hkW.2 gN (by omega) bN10.lt).trans bN10) (by unfold maxLen; omega)
    refine own_nds (own_kept (hown9.kept hg4 (own_not hown9 hRl8)) hkW (by omega)) fun z hz => ?_
    rcases mem_setN hz with rfl | h
    · exact HEX.out W hvW.all
    rcases HM1.out z h with rfl | h
    · exact hEW
    · exact hvW.all z h
  clear hSe hnew bF6 bR6 bX6 bN6 b9 hB9 bR9 bN9 bN10 hown9
  go_wp2
  obtain ⟨⟨r0, r1, r2, r3⟩, _⟩ := hb4.four
  refine bodyPost_ret (v := .agg (fsC mi mb nx (.slice a9 (setN l1 ⟨xi, xk, xl + 1, xd, xp, .slice ax nxx cx, xn⟩).length c9))) (by simp [results, Tryz.f79, go_sem, r0, r1, r2, r3]) rfl ?_
  exact ⟨_, .slice (some ⟨gN, 0, none⟩) m.length m.length, rfl, by rw [HN.out]; exact hNW, hbl⟩
end Go.Proofs.YtkdmfeikikmiiaaGreat
