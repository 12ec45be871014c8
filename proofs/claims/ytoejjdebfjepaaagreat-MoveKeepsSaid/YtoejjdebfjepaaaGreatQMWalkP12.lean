/- Texts put together: WalkO12, WalkP12. -/
import Derived.Test.YtoejjdebfjepaaaGreatQWalkD12
import Derived.Test.YtoejjdebfjepaaaGreatQWalkO11
import Derived.Test.YtoejjdebfjepaaaGreatQMWalkB05
import Derived.Test.YtoejjdebfjepaaaGreatQWalkF05
import Derived.Test.YtoejjdebfjepaaaGreatQWalkP11
import Derived.RegionTactic
import Derived.ChangeAlike
set_option linter.unusedVariables false
set_option linter.unusedSimpArgs false
/- Walks: the program's Unname and Name. -/
set_option linter.unusedVariables false
set_option linter.unusedSimpArgs false
namespace Go.Proofs.YtoejjdebfjepaaaGreat
open Go.RowKit

theorem links_calm {mi mb nx : Int} {l : List Nd} (h : SoundP mi mb nx l) (hc : Calm l) (i : Int) : 0 ≤ (getN l i).links ∧ (getN l i).links ≤ 1000000 := by
  cases hh : hasN l i
  · rw [getN_none hh]; exact ⟨Int.le_refl _, by decide⟩
  · have h1 := h.links _ (get_mem hh).1
    have h2 := names_ents l (getN l i).ino
    have h3 := ents_few (L := l) (m := 1000) (fun x hx => (hc.size x hx).1)
    have h4 := hc.len
    omega

set_option maxHeartbeats 8000000 in
set_option maxRecDepth 100000 in
theorem Unname_any (mi mb nx : Int) (l : List Nd) (s : Sp) (v : Value) (w : World) (hv : Nds w v l) (hok : OkS mi mb nx l) (hg : Gone l s.dir s.name s.ino) (hn : s.name.length ≤ 255) :
    Calls Tryz.prog 37 #[.agg (fsC mi mb nx v), .agg (spC s)] w fun e w' => ∃ y ev, e = .returned (.agg (fsC mi mb nx y)) ∧ MadeFs w v l w' y (unL l s.dir s.name s.ino ev) ∧ Below w.heap.size w w' := by
  obtain ⟨a, ca, rfl⟩ := nds_slice hv
  obtain ⟨sd, sn, si⟩ := s
  dsimp only at hg hn ⊢
  have hc := hok.calm
  have hso := sound_of hok.check
  have bF := ((Blk.new w 24 (fsC mi mb nx (.slice a l.length ca))).alloc (.cells (spC ⟨sd, sn, si⟩) 41)).alloc (.cells (fsC 0 0 0 (.slice none 0 0)) 24)
  have bS := (Blk.new (w.alloc (.cells (fsC mi mb nx (.slice a l.length ca)) 24)) 41 (spC ⟨sd, sn, si⟩)).alloc (.cells (fsC 0 0 0 (.slice none 0 0)) 24)
  have bR := Blk.new ((w.alloc (.cells (fsC mi mb nx (.slice a l.length ca)) 24)).alloc (.cells (spC ⟨sd, sn, si⟩) 41)) 24 (fsC 0 0 0 (.slice none 0 0))
  have hB0 : Below w.heap.size w (((w.alloc (.cells (fsC mi mb nx (.slice a l.length ca)) 24)).alloc (.cells (spC ⟨sd, sn, si⟩) 41)).alloc (.cells (fsC 0 0 0 (.slice none 0 0)) 24)) := (((Below.refl _ w).alloc (Nat.le_refl _) _).alloc (by simp) _).alloc (by simp; omega) _
  simp only [World.size_alloc] at bS bR
  have HV := Lib.hid hv
  have HC := Lib.hid hc
  have hG := GetN_any mi mb nx sd l _ _ (hv.below hB0) hc.rise (by have := hc.len; omega) (calm_data hc)
  have hEG := fun W (h : EntsAll W l) => get_ents h sd
  have hEX := fun W (h : EntsAll W l) => get_ents h si
  have hsg := (calm_ents hc sd).1
  have hlg := (calm_ents hc sd).2.1
  have hshg := (calm_ents hc sd).2.2
  have hdg := (calm_get hc sd).2.2.1
  have hdx := (calm_get hc si).2.2.1
  have hln := links_calm hso hc si
  have hXi : (getN l si).ino = si := (get_mem (gone_has hso hg)).2
  have hXs : ∀ ev, getN (setN l (lessD (getN l sd) sn ev)) si = getN l si := fun ev => get_set_ne hc.rise (by rw [less_ino (dir_parts (gone_dir hso hg)).1]; exact gone_ne hg)
  have hP0 := fun ev h => unL_last (l := l) (d := sd) (n := sn) (i := si) (ev := ev) h
  have hP1 := fun ev h => unL_more (l := l) (d := sd) (n := sn) (i := si) (ev := ev) h
  unfold lessD at hP0 hP1 hXs
  unfold linkX at hP1
  obtain ⟨ag, ng, cg, hgs⟩ := get_slice HV.out sd
  obtain ⟨ax, nxx, cx, hxs⟩ := get_slice HV.out si
  clear hv hok hg hso hc
  generalize hasN l sd = hs1 at *
  generalize getN l si = X at *
  generalize getN l sd = G at *
  obtain ⟨gi, gk, gl, gd, gp, ge, gn⟩ := G
  obtain ⟨xi, xk, xl, xd, xp, xe, xn⟩ := X
  dsimp only at hgs hxs hEG hEX hP0 hP1 hXi hXs hsg hlg hshg hdg hdx hln
  subst hgs hxs
  subst hXi
  have HP0 := Lib.hid hP0
  have HP1 := Lib.hid hP1
  have HXS := Lib.hid hXs
  have HEG := Lib.hid hEG
  have HEX := Lib.hid hEX
  clear hP0 hP1 hEG hEX hXs
  obtain ⟨⟨p0, p1, p2, p3⟩, _⟩ := bF.four
  obtain ⟨⟨s0, s1, s2⟩, _⟩ := bS.three
  dsimp only at s0 s1 s2
  go_enter Tryz.func37, Tryz.ntmps37
  go_wp2_with fail
  refine hG.mono ?_
  rintro e w1 ⟨rfl, b1⟩
  clear hG p0 p1 p2 p3 s0 s1 s2
  have b2 := b1.trans ((alloc_below w1 (.cells (ndC ⟨gi, gk, gl, gd, gp, .slice ag ng cg, gn⟩) 36)).mono b1.size)
  have bD := Blk.new w1 36 (ndC ⟨gi, gk, gl, gd, gp, .slice ag ng cg, gn⟩)
  have hDl : w.heap.size + 1 + 1 < w1.heap.size := (bR.next b1).lt
  replace bF := bF.next b2
  replace bS := bS.next b2
  replace bR := bR.next b2
  replace hB0 := hB0.trans (b2.mono hB0.size)
  clear b1 b2
  obtain ⟨⟨x0, x1, x2, x3, x4, x5⟩, _⟩ := bD.six
  obtain ⟨⟨s0, s1, s2⟩, _⟩ := bS.three
  dsimp only at s0 s1 s2 x0 x1 x2 x3 x4 x5
  have hWi := Without_any gn sn _ _ (HEG.out _ (HV.out.below hB0).all) hsg (by omega) hshg
  go_wp2_with fail
  refine hWi.mono ?_
  rintro e w3 ⟨gN, rfl, hgN, bN, b3⟩
  have hoB : w1.heap.size < (w1.alloc (.cells (ndC ⟨gi, gk, gl, gd, gp, .slice ag ng cg, gn⟩) 36)).heap.size := by simp
  clear hWi s0 s1 s2 x0 x1 x2 x3 x4 x5
  replace bF := bF.next b3
  replace bS := bS.next b3
  replace bR := bR.next b3
  replace bD := bD.next b3
  replace hB0 := hB0.trans (b3.mono hB0.size)
  have hdn : (withoutB gn sn).length ≤ 1000 := Nat.le_trans (without_len _ _) (by omega)
  clear b3
  generalize withoutB gn sn = m at *
  obtain ⟨⟨x0, x1, x2, x3, x4, x5⟩, f0, f1, f2, f3, f4, f5⟩ := bD.six
  dsimp only at x0 x1 x2 x3 x4 x5
  have bD5 := bD.set 5 (.slice (some ⟨gN, 0, none⟩) m.length m.length)
  rw [nd_set5 gi gk gl gd gp (.slice ag ng cg) (.slice (some ⟨gN, 0, none⟩) m.length m.length) gn m] at bD5
  have bF5 := bF.other (B2 := w1.heap.size) (i := 5) (by omega) (.slice (some ⟨gN, 0, none⟩) m.length m.length)
  have bS5 := bS.other (B2 := w1.heap.size) (i := 5) (by omega) (.slice (some ⟨gN, 0, none⟩) m.length m.length)
  have bR5 := bR.other (B2 := w1.heap.size) (i := 5) (by omega) (.slice (some ⟨gN, 0, none⟩) m.length m.length)
  have bN5 := bN.other (B2 := w1.heap.size) (i := 5) (by omega) (.slice (some ⟨gN, 0, none⟩) m.length m.length)
  have hB5 := hB0.setCell (p := ⟨w1.heap.size, 5, none⟩) (by show w.heap.size ≤ w1.heap.size; omega) (.slice (some ⟨gN, 0, none⟩) m.length m.length)
  have hgN2 : w.heap.size + 1 + 1 < gN := by omega
  clear bF bS bR bD bN hB0
  generalize hw5 : World.setCell w3 ⟨w1.heap.size, 5, none⟩ (.slice (some ⟨gN, 0, none⟩) m.length m.length) = w5 at *
  generalize w1.heap.size = BD at *
  have hEN5 := blk_ents bN5 (by unfold maxLen; omega)
  have hr := HC.out.rise
  have hle := HC.out.len
  have hda := calm_data HC.out
  have hS1 := SetN_any mi mb nx l ⟨gi, gk, gl, gd, gp, .slice (some ⟨gN, 0, none⟩) m.length m.length, m⟩ _ w5 (HV.out.below hB5) hEN5 hr (by omega) hda (Nat.le_trans hdg (by decide))
  have hr1 : riseP (setN l ⟨gi, gk, gl, gd, gp, .slice (some ⟨gN, 0, none⟩) m.length m.length, m⟩) := set_rise _ hr
  have hl1 := setN_len l ⟨gi, gk, gl, gd, gp, .slice (some ⟨gN, 0, none⟩) m.length m.length, m⟩
  have hmem1 : ∀ z ∈ setN l ⟨gi, gk, gl, gd, gp, .slice (some ⟨gN, 0, none⟩) m.length m.length, m⟩, z = ⟨gi, gk, gl, gd, gp, .slice (some ⟨gN, 0, none⟩) m.length m.length, m⟩ ∨ z ∈ l := fun z hz => mem_setN hz
  have HQ0 := Lib.hid (fun h => HP0.out (.slice (some ⟨gN, 0, none⟩) m.length m.length) h)
  have HQ1 := Lib.hid (fun h => HP1.out (.slice (some ⟨gN, 0, none⟩) m.length m.length) h)
  have hXS := HXS.out (.slice (some ⟨gN, 0, none⟩) m.length m.length)
  have hG2 := fun v W (h : Nds W v _) hr h1 h2 => GetN_any mi mb nx xi (setN l ⟨gi, gk, gl, gd, gp, .slice (some ⟨gN, 0, none⟩) m.length m.length, m⟩) v W h hr h1 h2
  rw [hXS] at hG2
  clear HP0 HP1 HXS hXS
  generalize setN l ⟨gi, gk, gl, gd, gp, .slice (some ⟨gN, 0, none⟩) m.length m.length, m⟩ = l1 at *
  generalize hasN l1 xi = hs2 at *
  have hda1 : ∀ z ∈ l1, z.data.length ≤ 281474976710656 := fun z hz => (hmem1 z hz).elim (fun h => by rw [h]; exact Nat.le_trans hdg (by decide)) (hda z)
  have HM1 := Lib.hid hmem1
  have HDA1 := Lib.hid hda1
  have HG2 := Lib.hid hG2
  clear hmem1 hda hda1 hG2
  obtain ⟨⟨p0, p1, p2, p3⟩, q0, q1, q2, q3⟩ := bF5.four
  obtain ⟨⟨d0, d1, d2, d3, d4, d5⟩, _⟩ := bD5.six
  dsimp only at d0 d1 d2 d3 d4 d5
  go_wp2_with fail
  refine hS1.mono ?_
  rintro e w7 ⟨v7, rfl, hnew⟩
  obtain ⟨a7, c7, rfl⟩ := own_slice hnew.1
  have b7 := hnew.2
  have hown7 := hnew.1
  have hRl : w.heap.size + 1 + 1 < w5.heap.size := bR5.lt
  have bF7 := bF5.next b7
  have bR7 := bR5.next b7
  have bS7 := bS5.next b7
  have bN7 := bN5.next b7
  have hB7 := hB5.trans (b7.mono hB5.size)
  have hsz7 := b7.size
  clear hS1 hnew b7 p0 p1 p2 p3 q0 q1 q2 q3 d0 d1 d2 d3 d4 d5 x0 x1 x2 x3 x4 x5 bF5 bR5 bS5 bD5 bN5 hB5 hEN5 f0 f1 f2 f3 f4 f5
  obtain ⟨_, f0, f1, f2, f3⟩ := bF7.four
  obtain ⟨w8, hw8, bF8, hg8⟩ := bF7.put4 (.int .i64 mi) (.int .i64 mb) (.int .i64 nx) (.slice a7 l1.length c7)
  have hsz8 := Nat.le_trans hsz7 hg8.size
  have bR8 := bR7.kept hg8 (by simp; omega)
  have bS8 := bS7.kept hg8 (by simp)
  have bN8 := bN7.kept hg8 (by simp; omega)
  have hB8 := below_grown hB7 hg8 (Nat.le_refl _) (Nat.le_refl _)
  have hown8 := hown7.kept hg8 (own_not hown7 (by omega))
  have hEN8 := blk_ents bN8 (by unfold maxLen; omega)
  have hN8 : Nds w8 (.slice a7 l1.length c7) l1 := own_nds hown8 fun z hz => (HM1.out z hz).elim (fun h => by rw [h]; exact hEN8) (fun h => (HV.out.below hB8).all z h)
  have hGX := HG2.out _ _ hN8 hr1 (by omega) HDA1.out
  generalize w5.heap.size = B7 at *
  clear hsz7 bF7 bR7 bS7 bN7 hB7 hown7 hg8 hEN8 HG2
  obtain ⟨⟨p0, p1, p2, p3⟩, _⟩ := bF8.four
  obtain ⟨⟨s0, s1, s2⟩, _⟩ := bS8.three
  dsimp only at s0 s1 s2
  go_wp2_with fail
  refine hGX.mono ?_
  rintro e w2 ⟨rfl, b1⟩
  clear hGX p0 p1 p2 p3 s0 s1 s2
  have b2 := b1.trans ((alloc_below w2 (.cells (ndC ⟨xi, xk, xl, xd, xp, .slice ax nxx cx, xn⟩) 36)).mono b1.size)
  have bX := Blk.new w2 36 (ndC ⟨xi, xk, xl, xd, xp, .slice ax nxx cx, xn⟩)
  have hXl : w.heap.size + 1 + 1 < w2.heap.size := (bR8.next b1).lt
  have hNl : gN < w2.heap.size := (bN8.next b1).lt
  have hB7l : B7 ≤ w2.heap.size := Nat.le_trans hsz8 b1.size
  have hne7 := own_far hown8 b1.size
  replace bF8 := bF8.next b2
  replace bR8 := bR8.next b2
  replace bN8 := bN8.next b2
  replace hN8 := hN8.below b2
  replace hown8 := own_keep hown8 b2
  replace hB8 := hB8.trans (b2.mono hB8.size)
  clear b1 b2 bS8 f0 f1 f2 f3 hw8
  have hwx : IntKind.i64.wrap (xl - 1) = xl - 1 := by rw [IntKind.wrap_i64]; omega
  obtain ⟨⟨y0, y1, y2, y3, y4, y5⟩, g0, g1, g2, g3, g4, g5⟩ := bX.six
  dsimp only at y0 y1 y2 y3 y4 y5
  have bX6 := bX.set 2 (.int .i64 (xl - 1))
  rw [nd_set2 xi xk xl (xl - 1)] at bX6
  have bF6 := bF8.other (B2 := w2.heap.size) (i := 2) (by omega) (.int .i64 (xl - 1))
  have bR6 := bR8.other (B2 := w2.heap.size) (i := 2) (by omega) (.int .i64 (xl - 1))
  have bN6 := bN8.other (B2 := w2.heap.size) (i := 2) (by omega) (.int .i64 (xl - 1))
  have hB6 := hB8.setCell (p := ⟨w2.heap.size, 2, none⟩) (by show w.heap.size ≤ w2.heap.size; omega) (.int .i64 (xl - 1))
  have hown6 := World.ownsRow.kept hown8 (grownBy_set _ w2.heap.size 2 (.int .i64 (xl - 1))) hne7
  have hEN6 := blk_ents bN6 (by unfold maxLen; omega)
  generalize hw6 : World.setCell (w2.alloc (.cells (ndC ⟨xi, xk, xl, xd, xp, .slice ax nxx cx, xn⟩) 36)) ⟨w2.heap.size, 2, none⟩ (.int .i64 (xl - 1)) = w6 at *
  have hN6 : Nds w6 (.slice a7 l1.length c7) l1 := own_nds hown6 fun z hz => (HM1.out z hz).elim (fun h => by rw [h]; exact hEN6) (fun h => (HV.out.below hB6).all z h)
  clear bF8 bR8 bN8 hB8 hown8 hN8 hEN6 hne7 hown6
  obtain ⟨⟨z0, z1, z2, z3, z4, z5⟩, _⟩ := bX6.six
  dsimp only at z0 z1 z2 z3 z4 z5
  obtain ⟨⟨p0, p1, p2, p3⟩, _⟩ := bF6.four
  by_cases h0 : xl - 1 = 0
  · have HN := Lib.hid (HQ0.out h0)
    have hz : ((xl - 1 : Int) == 0) = true := by rw [h0]; rfl
    have hDr := DropN_any mi mb nx xi l1 _ _ hN6 hr1 (by omega) HDA1.out
    clear h0 HQ0 HQ1 hN6
    go_wp2_with fail
    refine hDr.mono ?_
    rintro e w9 ⟨v9, rfl, hnew⟩
    obtain ⟨a9, c9, rfl⟩ := own_slice hnew.1
    have b9 := hnew.2
    have hB9 := hB6.trans (b9.mono hB6.size)
    have bR9 := bR6.next b9
    have bN9 := bN6.next b9
    have hRl8 := bR6.lt
    have hown9 := hnew.1
    clear p0 p1 p2 p3 z0 z1 z2 z3 z4 z5 y0 y1 y2 y3 y4 y5 g0 g1 g2 g3 g4 g5
    obtain ⟨_, e0, e1, e2, e3⟩ := bR9.four
    obtain ⟨W', hW', hb4, hg4⟩ := bR9.put4 (.int .i64 mi) (.int .i64 mb) (.int .i64 nx) (.slice a9 (dropN l1 xi).length c9)
    have bN10 := bN9.kept hg4 (by simp; omega)
    have hsz9 := b9.size
    have hbl := below_grown hB9 hg4 (Nat.le_refl _) (by omega)
    have hNW : MadeFs w (.slice a l.length ca) l W' (.slice a9 (dropN l1 xi).length c9) (dropN l1 xi) := fun W hkW hvW => by
      have hEW := blk_ents (show Blk W gN _ _ from (hkW.2 gN (by omega) bN10.lt).trans bN10) (by unfold maxLen; omega)
      refine own_nds (own_kept (hown9.kept hg4 (own_not hown9 hRl8)) hkW (by omega)) fun z hz => ?_
      rcases HM1.out z (mem_dropN hz) with rfl | h
      · exact hEW
      · exact hvW.all z h
    clear hDr hnew bF6 bR6 bX6 bN6 b9 hB9 bR9 bN9 bN10 hown9
    go_wp2
    obtain ⟨⟨r0, r1, r2, r3⟩, _⟩ := hb4.four
    refine bodyPost_ret (v := .agg (fsC mi mb nx (.slice a9 (dropN l1 xi).length c9))) (by simp [results, Tryz.f37, go_sem, r0, r1, r2, r3]) rfl ?_
    exact ⟨_, .slice (some ⟨gN, 0, none⟩) m.length m.length, rfl, by rw [HN.out]; exact hNW, hbl⟩
  · have HN := Lib.hid (HQ1.out h0)
    have hz : ((xl - 1 : Int) == 0) = false := by rw [beq_eq_false_iff_ne]; exact h0
    have hSe := SetN_any mi mb nx l1 ⟨xi, xk, xl - 1, xd, xp, .slice ax nxx cx, xn⟩ _ _ hN6 (HEX.out _ (HV.out.below hB6).all) hr1 (by omega) HDA1.out (Nat.le_trans hdx (by decide))
    clear h0 HQ0 HQ1 hN6
    go_wp2_with fail
    refine hSe.mono ?_
    rintro e w9 ⟨v9, rfl, hnew⟩
    obtain ⟨a9, c9, rfl⟩ := own_slice hnew.1
    have b9 := hnew.2
    have hB9 := hB6.trans (b9.mono hB6.size)
    have bR9 := bR6.next b9
    have bN9 := bN6.next b9
    have hRl8 := bR6.lt
    have hown9 := hnew.1
    clear p0 p1 p2 p3 z0 z1 z2 z3 z4 z5 y0 y1 y2 y3 y4 y5 g0 g1 g2 g3 g4 g5
    obtain ⟨_, e0, e1, e2, e3⟩ := bR9.four
    obtain ⟨W', hW', hb4, hg4⟩ := bR9.put4 (.int .i64 mi) (.int .i64 mb) (.int .i64 nx) (.slice a9 (setN l1 ⟨xi, xk, xl - 1, xd, xp, .slice ax nxx cx, xn⟩).length c9)
    have bN10 := bN9.kept hg4 (by simp; omega)
    have hsz9 := b9.size
    have hbl := below_grown hB9 hg4 (Nat.le_refl _) (by omega)
    have hNW : MadeFs w (.slice a l.length ca) l W' (.slice a9 (setN l1 ⟨xi, xk, xl - 1, xd, xp, .slice ax nxx cx, xn⟩).length c9) (setN l1 ⟨xi, xk, xl - 1, xd, xp, .slice ax nxx cx, xn⟩) := fun W hkW hvW => by
      have hEW := blk_ents (show Blk W gN _ _ from (hkW.2 gN (by omega) bN10.lt).trans bN10) (by unfold maxLen; omega)
      refine own_nds (own_kept (hown9.kept hg4 (own_not hown9 hRl8)) hkW (by omega)) fun z hz => ?_
      rcases mem_setN hz with rfl | h
      · exact HEX.out W hvW.all
      rcases HM1.out z h with rfl | h
      · exact hEW
      · exact hvW.all z h
    clear hSe hnew bF6 bR6 bX6 bN6 b9 hB9 bR9 bN9 bN10 hown9
    go_wp2
    obtain ⟨⟨r0, r1, r2, r3⟩, _⟩ := hb4.four
    refine bodyPost_ret (v := .agg (fsC mi mb nx (.slice a9 (setN l1 ⟨xi, xk, xl - 1, xd, xp, .slice ax nxx cx, xn⟩).length c9))) (by simp [results, Tryz.f37, go_sem, r0, r1, r2, r3]) rfl ?_
    exact ⟨_, .slice (some ⟨gN, 0, none⟩) m.length m.length, rfl, by rw [HN.out]; exact hNW, hbl⟩
end Go.Proofs.YtoejjdebfjepaaaGreat

/- Walks: the program's found, Link, Unlink and Rmdir. -/
set_option linter.unusedVariables false
set_option linter.unusedSimpArgs false
namespace Go.Proofs.YtoejjdebfjepaaaGreat
open Go.RowKit

/-- Where a path leads, its last name not followed, and what is there. -/
def foundF (l : List Nd) (base p : List UInt8) : (Sp × Nd) × Int :=
  if (seekP l base p false).2 ≠ 0 then ((zeroS, zeroN), (seekP l base p false).2)
  else if (seekP l base p false).1.ino = 0 then ((zeroS, zeroN), 1)
  else (((seekP l base p false).1, getN l (seekP l base p false).1.ino), 0)
theorem found_slice {w : World} {v : Value} {l : List Nd} (h : Nds w v l) (base p : List UInt8) : ∃ a n c, (foundF l base p).1.2.ev = .slice a n c := by
  unfold foundF
  split
  · exact ⟨_, _, _, rfl⟩
  split
  · exact ⟨_, _, _, rfl⟩
  · exact get_slice h _
theorem found_ents {w : World} {l : List Nd} (h : EntsAll w l) (base p : List UInt8) : Ents w (foundF l base p).1.2.ev (foundF l base p).1.2.ents := by
  unfold foundF
  split
  · exact Ents.nil_ w
  split
  · exact Ents.nil_ w
  · exact get_ents h _
theorem found_name (l : List Nd) (base p : List UInt8) : (foundF l base p).1.1.name.length ≤ 255 := by
  unfold foundF
  split
  · exact Nat.zero_le _
  split
  · exact Nat.zero_le _
  · exact seek_short l base p false
theorem found_ok {l : List Nd} {base p : List UInt8} (h0 : (foundF l base p).2 = 0) : (seekP l base p false).2 = 0 ∧ (seekP l base p false).1.ino ≠ 0 ∧ foundF l base p = (((seekP l base p false).1, getN l (seekP l base p false).1.ino), 0) := by
  unfold foundF at h0 ⊢
  split at h0
  · rename_i c; exact absurd h0 c
  rename_i c1
  split at h0
  · cases h0
  rename_i c2
  exact ⟨by simpa using c1, c2, by rw [if_neg c1, if_neg c2]⟩
theorem found_leaf {mi mb nx : Int} {l : List Nd} (hs : SoundP mi mb nx l) {base p : List UInt8} (h0 : (foundF l base p).2 = 0) (hk : (foundF l base p).1.2.kind ≠ 2) : Gone l (foundF l base p).1.1.dir (foundF l base p).1.1.name (foundF l base p).1.1.ino := by
  obtain ⟨h1, h2, h3⟩ := found_ok h0
  rw [h3] at hk ⊢
  have p1 := (seek_spot hs base p false).1 h1
  exact spot_gone hs p1 h2 (fun e => hk (dir_parts (p1.bare e).1).2) (leaf_bare hs (spot_has hs p1 h2) hk)
theorem found_bare {mi mb nx : Int} {l : List Nd} (hs : SoundP mi mb nx l) {base p : List UInt8} (h0 : (foundF l base p).2 = 0) (hn : (foundF l base p).1.1.name ≠ []) (hb : (foundF l base p).1.2.ents = []) : Gone l (foundF l base p).1.1.dir (foundF l base p).1.1.name (foundF l base p).1.1.ino := by
  obtain ⟨h1, h2, h3⟩ := found_ok h0
  rw [h3] at hn hb ⊢
  exact spot_gone hs ((seek_spot hs base p false).1 h1) h2 hn hb
theorem found_given {mi mb nx : Int} {l : List Nd} (hs : SoundP mi mb nx l) {base p q : List UInt8} (h0 : (foundF l base p).2 = 0) (hk : (foundF l base p).1.2.kind ≠ 2) (h4 : (seekP l base q false).2 = 0) (h5 : (seekP l base q false).1.ino = 0) (h6 : mayB (seekP l base q false).1.name = true) : Given l (seekP l base q false).1.dir (seekP l base q false).1.name (foundF l base p).1.2.ino := by
  obtain ⟨h1, h2, h3⟩ := found_ok h0
  rw [h3] at hk ⊢
  have hh := spot_has hs ((seek_spot hs base p false).1 h1) h2
  have hin := (get_mem hh).2
  obtain ⟨g1, _, g3⟩ := ((seek_spot hs base q false).1 h4).entry (mayB_good h6).2
  refine ⟨g1, by rw [g3, h5]; rfl, h6, ?_, ?_⟩
  · show hasN l (getN l _).ino = true
    rw [hin]; exact hh
  · show (getN l (getN l _).ino).kind ≠ 2
    rw [hin]; exact hk
theorem unlink_found (l : List Nd) (base p : List UInt8) (ev : Value) : unlinkF l base p ev = if (foundF l base p).2 ≠ 0 then (l, (foundF l base p).2) else if (foundF l base p).1.2.kind = 2 then (l, 4) else (unL l (foundF l base p).1.1.dir (foundF l base p).1.1.name (foundF l base p).1.1.ino ev, 0) := by
  unfold unlinkF foundF
  by_cases h1 : (seekP l base p false).2 ≠ 0
  · simp only [if_pos h1]
  by_cases h2 : (seekP l base p false).1.ino = 0
  · simp only [if_neg h1, if_pos h2]; rfl
  · simp only [if_neg h1, if_neg h2]; rfl
theorem rmdir_found (l : List Nd) (base p : List UInt8) (ev : Value) : rmdirF l base p ev = if (foundF l base p).2 ≠ 0 then (l, (foundF l base p).2) else if (foundF l base p).1.2.kind ≠ 2 then (l, 3) else if (foundF l base p).1.2.ino = 1 then (l, 10) else if (foundF l base p).1.1.name = [] then (l, 9) else if (foundF l base p).1.2.ents.length > 0 then (l, 5) else (unL l (foundF l base p).1.1.dir (foundF l base p).1.1.name (foundF l base p).1.1.ino ev, 0) := by
  unfold rmdirF foundF
  by_cases h1 : (seekP l base p false).2 ≠ 0
  · simp only [if_pos h1]
  by_cases h2 : (seekP l base p false).1.ino = 0
  · simp only [if_neg h1, if_pos h2]; rfl
  · simp only [if_neg h1, if_neg h2]; rfl
theorem link_found (l : List Nd) (base src dst : List UInt8) (ev : Value) : linkF l base src dst ev = if (foundF l base src).2 ≠ 0 then (l, (foundF l base src).2) else if (foundF l base src).1.2.kind = 2 then (l, 11) else if (seekP l base dst false).2 ≠ 0 then (l, (seekP l base dst false).2) else if (seekP l base dst false).1.ino ≠ 0 then (l, 2) else if slashB dst = true then (l, 1) else if mayB (seekP l base dst false).1.name = false then (l, 9) else (naL l (seekP l base dst false).1.dir (seekP l base dst false).1.name (foundF l base src).1.2.ino ev, 0) := by
  unfold linkF foundF
  by_cases h1 : (seekP l base src false).2 ≠ 0
  · simp only [if_pos h1]
  by_cases h2 : (seekP l base src false).1.ino = 0
  · simp only [if_neg h1, if_pos h2]; rfl
  · simp only [if_neg h1, if_neg h2]; rfl

end Go.Proofs.YtoejjdebfjepaaaGreat
