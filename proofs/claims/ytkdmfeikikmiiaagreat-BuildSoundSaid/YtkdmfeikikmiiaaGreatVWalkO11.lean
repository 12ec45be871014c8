/- Walks: the program's with: an inode put in. -/
import Derived.Test.YtkdmfeikikmiiaaGreatVWalkP10
import Derived.Test.YtkdmfeikikmiiaaGreatVMWalkD07
import Derived.Test.YtkdmfeikikmiiaaGreatVMWalkB05
import Derived.Test.YtkdmfeikikmiiaaGreatVMWalkK05
import Derived.Test.YtkdmfeikikmiiaaGreatVMWalkB03
import Derived.Test.YtkdmfeikikmiiaaGreatVMWalkF03
import Derived.Deep.RegionWith
import Derived.Deep.Cut
set_option linter.unusedVariables false
set_option linter.unusedSimpArgs false
namespace Go.Proofs.YtkdmfeikikmiiaaGreat
open Go.RowKit
/-- A row's own block is none that is made later. -/
theorem own_far {w : World} {base : Nat} {e : TypeId} {size : Nat} {v : Value} {n : Nat} {xs : List Value} (h : w.ownsRow base e size v n xs) {B : Nat} (hB : w.heap.size ≤ B) : v.ownBlock = none ∨ v.ownBlock ≠ some B := by
  obtain ⟨h1, h2⟩ := h
  rcases h2 with ⟨rfl, _⟩ | ⟨g, cap, cur, rfl, hg, hh, r⟩
  · exact .inl rfl
  · have hlt : g < w.heap.size := by
      rcases Nat.lt_or_ge g w.heap.size with h | h
      · exact h
      · simp [Array.getElem?_eq_none h] at hh
    right; simp [Value.ownBlock]; omega
set_option maxHeartbeats 8000000 in
set_option maxRecDepth 100000 in
theorem withN_any (mi mb nx k : Int) (l : List Nd) (s : Sp) (data : List UInt8) (v : Value) (w : World) (hv : Nds w v l) (hc : Calm l) (hdl : data.length ≤ 20000) (hn : s.name.length ≤ 255) (h0 : 0 ≤ nx) (h1 : nx ≤ 4611686018427387904) :
    Calls Tryz.prog 93 #[.agg (fsC mi mb nx v), .agg (spC s), .agg (ndC ⟨0, k, 1, data, 0, .slice none 0 0, []⟩)] w fun e w' => ∃ y ev, e = .returned (.agg (fsC mi mb (nx + 1) y)) ∧ MadeFs w v l w' y (newL l s.dir s.name ev (leafX nx k data s.dir)) ∧ Below w.heap.size w w' := by
  obtain ⟨a, ca, rfl⟩ := nds_slice hv
  obtain ⟨sd, sn, si⟩ := s
  dsimp only at hn
  have bF := (((Blk.new w 28 (fsC mi mb nx (.slice a l.length ca))).alloc (.cells (spC ⟨sd, sn, si⟩) 81)).alloc (.cells (ndC ⟨0, k, 1, data, 0, .slice none 0 0, []⟩) 49)).alloc (.cells (fsC 0 0 0 (.slice none 0 0)) 28)
  have bS := ((Blk.new (w.alloc (.cells (fsC mi mb nx (.slice a l.length ca)) 28)) 81 (spC ⟨sd, sn, si⟩)).alloc (.cells (ndC ⟨0, k, 1, data, 0, .slice none 0 0, []⟩) 49)).alloc (.cells (fsC 0 0 0 (.slice none 0 0)) 28)
  have bX := (Blk.new ((w.alloc (.cells (fsC mi mb nx (.slice a l.length ca)) 28)).alloc (.cells (spC ⟨sd, sn, si⟩) 81)) 49 (ndC ⟨0, k, 1, data, 0, .slice none 0 0, []⟩)).alloc (.cells (fsC 0 0 0 (.slice none 0 0)) 28)
  have bR := Blk.new (((w.alloc (.cells (fsC mi mb nx (.slice a l.length ca)) 28)).alloc (.cells (spC ⟨sd, sn, si⟩) 81)).alloc (.cells (ndC ⟨0, k, 1, data, 0, .slice none 0 0, []⟩) 49)) 28 (fsC 0 0 0 (.slice none 0 0))
  have hB0 : Below w.heap.size w ((((w.alloc (.cells (fsC mi mb nx (.slice a l.length ca)) 28)).alloc (.cells (spC ⟨sd, sn, si⟩) 81)).alloc (.cells (ndC ⟨0, k, 1, data, 0, .slice none 0 0, []⟩) 49)).alloc (.cells (fsC 0 0 0 (.slice none 0 0)) 28)) := ((((Below.refl _ w).alloc (Nat.le_refl _) _).alloc (by simp) _).alloc (by simp; omega) _).alloc (by simp; omega) _
  simp only [World.size_alloc] at bS bX bR
  have HV := Lib.hid hv
  have HC := Lib.hid hc
  have hT := TakeN_any mi mb nx l _ _ (hv.below hB0) (by have := hc.len; omega) (calm_data hc) h0 h1
  clear hv hc
  obtain ⟨⟨p0, p1, p2, p3⟩, _⟩ := bF.four
  go_enter Tryz.func93, Tryz.ntmps93
  go_wp2_with fail
  refine hT.mono ?_
  rintro e w1 ⟨y1, rfl, hnew1⟩
  obtain ⟨a1, c1, rfl⟩ := own_slice hnew1.1
  obtain ⟨hown, b1⟩ := hnew1
  clear hT p0 p1 p2 p3
  replace bF := bF.next b1
  replace bS := bS.next b1
  replace bX := bX.next b1
  replace bR := bR.next b1
  replace hB0 := hB0.trans (b1.mono hB0.size)
  have hbase : w.heap.size + 1 + 1 + 1 < ((((w.alloc (.cells (fsC mi mb nx (.slice a l.length ca)) 28)).alloc (.cells (spC ⟨sd, sn, si⟩) 81)).alloc (.cells (ndC ⟨0, k, 1, data, 0, .slice none 0 0, []⟩) 49)).alloc (.cells (fsC 0 0 0 (.slice none 0 0)) 28)).heap.size := by simp
  clear b1
  generalize ((((w.alloc (.cells (fsC mi mb nx (.slice a l.length ca)) 28)).alloc (.cells (spC ⟨sd, sn, si⟩) 81)).alloc (.cells (ndC ⟨0, k, 1, data, 0, .slice none 0 0, []⟩) 49)).alloc (.cells (fsC 0 0 0 (.slice none 0 0)) 28)).heap.size = NB at *
  obtain ⟨⟨p0, p1, p2, p3⟩, f0, f1, f2, f3⟩ := bF.four
  obtain ⟨W', hW', hb4, hg4⟩ := bF.put4 (.int .i64 mi) (.int .i64 mb) (.int .i64 (nx + 1)) (.slice a1 l.length c1)
  have bS1 := bS.kept hg4 (by simp)
  have bX1 := bX.kept hg4 (by simp; omega)
  have bR1 := bR.kept hg4 (by simp; omega)
  have hown1 := hown.kept hg4 (own_not hown (by omega))
  have hB1 := below_grown hB0 hg4 (Nat.le_refl _) (Nat.le_refl _)
  clear hg4 bS bX bR hB0 hown
  obtain ⟨⟨x0, x1, x2, x3, x4, x5⟩, g0, g1, g2, g3, g4, g5⟩ := bX1.six
  dsimp only at x0 x1 x2 x3 x4 x5
  have bX2 := bX1.set 0 (.int .i64 nx)
  rw [show (ndC ⟨0, k, 1, data, 0, .slice none 0 0, []⟩).setIfInBounds 0 (.int .i64 nx) = ndC ⟨nx, k, 1, data, 0, .slice none 0 0, []⟩ from rfl] at bX2
  have bF2 := hb4.other (B2 := w.heap.size + 1 + 1) (i := 0) (by omega) (.int .i64 nx)
  have bS2 := bS1.other (B2 := w.heap.size + 1 + 1) (i := 0) (by omega) (.int .i64 nx)
  have bR2 := bR1.other (B2 := w.heap.size + 1 + 1) (i := 0) (by omega) (.int .i64 nx)
  have hB2 := hB1.setCell (p := ⟨w.heap.size + 1 + 1, 0, none⟩) (by show w.heap.size ≤ w.heap.size + 1 + 1; omega) (.int .i64 nx)
  have hown2 := World.ownsRow.kept hown1 (grownBy_set W' (w.heap.size + 1 + 1) 0 (.int .i64 nx)) (own_not hown1 (by omega))
  clear bS1 bR1 hb4 hB1 hown1
  generalize hw2 : World.setCell W' ⟨w.heap.size + 1 + 1, 0, none⟩ (.int .i64 nx) = w2 at *
  obtain ⟨⟨z0, z1, z2, z3, z4, z5⟩, j0, j1, j2, j3, j4, j5⟩ := bX2.six
  dsimp only at z0 z1 z2 z3 z4 z5
  obtain ⟨⟨s0, s1, s2⟩, _⟩ := bS2.three
  dsimp only at s0 s1 s2
  go_upto_if 17 with (fail)
  go_cut [] from 17 (fun wc => Aside (Blk wc w.heap.size 28 (fsC mi mb (nx + 1) (.slice a1 l.length c1)) ∧ Blk wc (w.heap.size + 1) 81 (spC ⟨sd, sn, si⟩) ∧ Blk wc (w.heap.size + 1 + 1) 49 (ndC (leafX nx k data sd)) ∧ Blk wc (w.heap.size + 1 + 1 + 1) 28 (fsC 0 0 0 (.slice none 0 0)) ∧ wc.ownsRow NB 49 6 (.slice a1 l.length c1) l.length (ndsV l) ∧ Below w.heap.size w wc))
  case first =>
    by_cases hk2 : k = 2
    · subst hk2
      have bX3 := bX2.set 4 (.int .i64 sd)
      rw [show (ndC ⟨nx, 2, 1, data, 0, .slice none 0 0, []⟩).setIfInBounds 4 (.int .i64 sd) = ndC (leafX nx 2 data sd) from rfl] at bX3
      have hown3 := World.ownsRow.kept hown2 (grownBy_set w2 (w.heap.size + 1 + 1) 4 (.int .i64 sd)) (own_not hown2 (by omega))
      have hB3 := hB2.setCell (p := ⟨w.heap.size + 1 + 1, 4, none⟩) (by show w.heap.size ≤ w.heap.size + 1 + 1; omega) (.int .i64 sd)
      go_wp2_with fail
      go_meet
      exact ⟨bF2.other (by omega) _, bS2.other (by omega) _, bX3, bR2.other (by omega) _, hown3, hB3⟩
    · go_wp2_with fail
      go_meet
      exact ⟨bF2, bS2, by unfold leafX; rw [if_neg hk2]; exact bX2, bR2, hown2, hB2⟩
  case rest =>
    obtain ⟨bF7, bS7, bX7, bR7, hown7, hB7⟩ := hcut.out
    clear hcut bF2 bS2 bX2 bR2 hB2 hown2 bX1 hW' p0 p1 p2 p3 f0 f1 f2 f3 x0 x1 x2 x3 x4 x5 g0 g1 g2 g3 g4 g5 z0 z1 z2 z3 z4 z5 j0 j1 j2 j3 j4 j5 s0 s1 s2 hw2
    rename World => w7
    obtain ⟨x, hxx⟩ : ∃ x, leafX nx k data sd = x := ⟨_, rfl⟩
    rw [hxx] at bX7
    have hxi : x.ino = nx := by rw [← hxx]; rfl
    have hxe : x.ents = [] := by rw [← hxx]; rfl
    have hxv : x.ev = .slice none 0 0 := by rw [← hxx]; rfl
    have hxd : x.data = data := by rw [← hxx]; rfl
    have HXX := Lib.hid hxx
    clear hxx
    obtain ⟨xi, xk, xl, xd, xp, xv, xe⟩ := x
    dsimp only at hxi hxe hxv hxd
    subst hxi hxe hxv hxd
    have hG := GetN_any mi mb (xi + 1) sd l _ _ (own_nds hown7 (HV.out.below hB7).all) HC.out.rise (by have := HC.out.len; omega) (calm_data HC.out)
    have hEG := get_ents (HV.out.below hB7).all sd
    have hsg := (calm_ents HC.out sd).1
    have hlg := (calm_ents HC.out sd).2.1
    have hshg := (calm_ents HC.out sd).2.2
    have hdg := (calm_get HC.out sd).2.2.1
    have hP : ∀ ev x, newL l sd sn ev x = setN (setN l (moreD (getN l sd) sn x.ino ev)) x := fun _ _ => rfl
    unfold moreD at hP
    obtain ⟨ag, ng, cg, hgs⟩ := get_slice HV.out sd
    generalize getN l sd = G at *
    generalize hasN l sd = hs at *
    obtain ⟨gi, gk, gl, gd, gp, ge, gn⟩ := G
    dsimp only at hgs hEG hP hsg hlg hshg hdg
    subst hgs
    have HP := Lib.hid hP
    clear hP
    obtain ⟨⟨p0, p1, p2, p3⟩, _⟩ := bF7.four
    obtain ⟨⟨s0, s1, s2⟩, _⟩ := bS7.three
    dsimp only at s0 s1 s2
    go_wp2_with fail
    refine hG.mono ?_
    rintro e w8 ⟨rfl, b8⟩
    clear hG p0 p1 p2 p3 s0 s1 s2
    have b9 := b8.trans ((alloc_below w8 (.cells (ndC ⟨gi, gk, gl, gd, gp, .slice ag ng cg, gn⟩) 49)).mono b8.size)
    have bD := Blk.new w8 49 (ndC ⟨gi, gk, gl, gd, gp, .slice ag ng cg, gn⟩)
    have hRl : w.heap.size + 1 + 1 + 1 < w8.heap.size := (bR7.next b8).lt
    have hne7 := fun B (h : w8.heap.size ≤ B) => own_far hown7 (Nat.le_trans b8.size h)
    replace bF7 := bF7.next b9
    replace bS7 := bS7.next b9
    replace bX7 := bX7.next b9
    replace bR7 := bR7.next b9
    replace hown7 := own_keep hown7 b9
    replace hB7 := hB7.trans (b9.mono hB7.size)
    replace hEG := hEG.below b9
    clear b8 b9
    obtain ⟨⟨s0, s1, s2⟩, _⟩ := bS7.three
    obtain ⟨⟨x0, x1, x2, x3, x4, x5⟩, _⟩ := bX7.six
    obtain ⟨⟨y0, y1, y2, y3, y4, y5⟩, _⟩ := bD.six
    dsimp only at s0 s1 s2 x0 x1 x2 x3 x4 x5 y0 y1 y2 y3 y4 y5
    go_wp2_with fail
    refine (With_any gn sn xi _ _ hEG hsg (by omega) hshg (by omega)).mono ?_
    rintro e w4 ⟨gN, rfl, hgN, bN, b4⟩
    have hoB : w8.heap.size < (w8.alloc (.cells (ndC ⟨gi, gk, gl, gd, gp, .slice ag ng cg, gn⟩) 49)).heap.size := by simp
    clear x0 x1 x2 x3 x4 x5 y0 y1 y2 y3 y4 y5 s0 s1 s2 hEG
    replace bF7 := bF7.next b4
    replace bX7 := bX7.next b4
    replace bR7 := bR7.next b4
    replace bD := bD.next b4
    replace hown7 := own_keep hown7 b4
    replace hB7 := hB7.trans (b4.mono hB7.size)
    have hdn : (withB gn sn xi).length ≤ 1001 := Nat.le_trans (with_len _ _ _) (by omega)
    clear b4 bS7
    generalize hmm : withB gn sn xi = m at *
    have HMM := Lib.hid hmm
    clear hmm
    obtain ⟨⟨y0, y1, y2, y3, y4, y5⟩, g0, g1, g2, g3, g4, g5⟩ := bD.six
    dsimp only at y0 y1 y2 y3 y4 y5
    have bD5 := bD.set 5 (.slice (some ⟨gN, 0, none⟩) m.length m.length)
    rw [nd_set5 gi gk gl gd gp (.slice ag ng cg) (.slice (some ⟨gN, 0, none⟩) m.length m.length) gn m] at bD5
    have bF5 := bF7.other (B2 := w8.heap.size) (i := 5) (by omega) (.slice (some ⟨gN, 0, none⟩) m.length m.length)
    have bX5 := bX7.other (B2 := w8.heap.size) (i := 5) (by omega) (.slice (some ⟨gN, 0, none⟩) m.length m.length)
    have bR5 := bR7.other (B2 := w8.heap.size) (i := 5) (by omega) (.slice (some ⟨gN, 0, none⟩) m.length m.length)
    have bN5 := bN.other (B2 := w8.heap.size) (i := 5) (by omega) (.slice (some ⟨gN, 0, none⟩) m.length m.length)
    have hB5 := hB7.setCell (p := ⟨w8.heap.size, 5, none⟩) (by show w.heap.size ≤ w8.heap.size; omega) (.slice (some ⟨gN, 0, none⟩) m.length m.length)
    have hown5 := World.ownsRow.kept hown7 (grownBy_set w4 w8.heap.size 5 (.slice (some ⟨gN, 0, none⟩) m.length m.length)) (hne7 _ (Nat.le_refl _))
    have hgN2 : w.heap.size + 1 + 1 + 1 < gN := by omega
    clear bF7 bX7 bR7 bD bN hB7 hown7 hne7
    generalize hw5 : World.setCell w4 ⟨w8.heap.size, 5, none⟩ (.slice (some ⟨gN, 0, none⟩) m.length m.length) = w5 at *
    generalize w8.heap.size = BD at *
    have hEN5 := blk_ents bN5 (by unfold maxLen; omega)
    have hr := HC.out.rise
    have hle := HC.out.len
    have hda := calm_data HC.out
    have hP := HP.out (.slice (some ⟨gN, 0, none⟩) m.length m.length) ⟨xi, xk, xl, xd, xp, .slice none 0 0, []⟩
    dsimp only at hP
    rw [HMM.out] at hP
    have hS1 := SetN_any mi mb (xi + 1) l ⟨gi, gk, gl, gd, gp, .slice (some ⟨gN, 0, none⟩) m.length m.length, m⟩ _ w5.drew (own_nds (own_keep hown5 (Below.refl _ _).drew) (HV.out.below (hB5.trans (((Below.refl w5.heap.size w5).drew).mono hB5.size))).all) (hEN5.below (Below.refl _ _).drew) hr (by omega) hda (Nat.le_trans hdg (by decide))
    have hr1 : riseP (setN l ⟨gi, gk, gl, gd, gp, .slice (some ⟨gN, 0, none⟩) m.length m.length, m⟩) := set_rise _ hr
    have hl1 := setN_len l ⟨gi, gk, gl, gd, gp, .slice (some ⟨gN, 0, none⟩) m.length m.length, m⟩
    have hmem1 : ∀ z ∈ setN l ⟨gi, gk, gl, gd, gp, .slice (some ⟨gN, 0, none⟩) m.length m.length, m⟩, z = ⟨gi, gk, gl, gd, gp, .slice (some ⟨gN, 0, none⟩) m.length m.length, m⟩ ∨ z ∈ l := fun z hz => mem_setN hz
    generalize setN l ⟨gi, gk, gl, gd, gp, .slice (some ⟨gN, 0, none⟩) m.length m.length, m⟩ = l1 at *
    have hda1 : ∀ z ∈ l1, z.data.length ≤ 281474976710656 := fun z hz => (hmem1 z hz).elim (fun h => by rw [h]; exact Nat.le_trans hdg (by decide)) (hda z)
    have hmem2 : ∀ z ∈ setN l1 ⟨xi, xk, xl, xd, xp, .slice none 0 0, []⟩, z = ⟨xi, xk, xl, xd, xp, .slice none 0 0, []⟩ ∨ z = ⟨gi, gk, gl, gd, gp, .slice (some ⟨gN, 0, none⟩) m.length m.length, m⟩ ∨ z ∈ l := fun z hz => by
      rcases mem_setN hz with h | h
      · exact .inl h
      · exact .inr (hmem1 z h)
    have HP2 := Lib.hid hP
    have HM1 := Lib.hid hmem1
    have HM2 := Lib.hid hmem2
    have HDA1 := Lib.hid hda1
    have HDL : Hid (xd.length ≤ 281474976710656) := Lib.hid (by omega)
    clear hP hmem1 hmem2 hda hda1 hdl
    have hq0 : Below w5.heap.size w5 w5.drew := (Below.refl _ _).drew
    have hq := hq0
    have hRB : w.heap.size + 1 + 1 + 1 < w5.heap.size := bR5.lt
    have HMK : ∀ W, Below w5.heap.size w5 W → (W.cell? ⟨w.heap.size + 1 + 1, 0, none⟩ = some (.int .i64 xi) ∧ W.cell? ⟨w.heap.size + 1 + 1, 1, none⟩ = some (.int .i64 xk) ∧ W.cell? ⟨w.heap.size + 1 + 1, 2, none⟩ = some (.int .i64 xl) ∧ W.cell? ⟨w.heap.size + 1 + 1, 3, none⟩ = some (.string ⟨xd.toArray⟩) ∧ W.cell? ⟨w.heap.size + 1 + 1, 4, none⟩ = some (.int .i64 xp) ∧ W.cell? ⟨w.heap.size + 1 + 1, 5, none⟩ = some (.slice none 0 0)) := fun W h => (bX5.next h).six.1
    have bFd := bF5.next hq0
    have bDd := bD5.next hq0
    obtain ⟨⟨p0, p1, p2, p3⟩, _⟩ := bFd.four
    go_upto_region 6 with fail
    clear y0 y1 y2 y3 y4 y5 g0 g1 g2 g3 g4 g5
    obtain ⟨⟨y0, y1, y2, y3, y4, y5⟩, _⟩ := bDd.six
    dsimp only at y0 y1 y2 y3 y4 y5
    obtain ⟨x0, x1, x2, x3, x4, x5⟩ := HMK _ hq0
    go_region_with (first
        | (go_at_call 100; refine (SetN_any mi mb (xi + 1) l1 ⟨xi, xk, xl, xd, xp, .slice none 0 0, []⟩ _ _ n8 (Ents.nil_ _) hr1 (by omega) HDA1.out HDL.out).mono ?_; rintro e w9 ⟨v9, rfl, hnew2⟩; obtain ⟨a9, c9, rfl⟩ := own_slice hnew2.1; have b9 := hnew2.2; have hq9 := hq; have hq := hq.trans (b9.mono hq.size); have bR9 := bR5.next hq; obtain ⟨⟨p0, p1, p2, p3⟩, e0, e1, e2, e3⟩ := bR9.four; obtain ⟨W', hW', hb4, hg4⟩ := bR9.put4 (.int .i64 mi) (.int .i64 mb) (.int .i64 (xi + 1)) (.slice a9 (setN l1 ⟨xi, xk, xl, xd, xp, .slice none 0 0, []⟩).length c9))
        | (go_at_call 100; refine hS1.mono ?_; rintro e w8 ⟨v8, rfl, hnew⟩; obtain ⟨a8, c8, rfl⟩ := own_slice hnew.1; have b8 := hnew.2; have hq := hq.trans (b8.mono hq.size); have n8 := new_nds hnew (fun z hz => (HM1.out z hz).elim (fun h => by rw [h]; exact hEN5.below hq) (fun h => (HV.out.below (hB5.trans (hq.mono hB5.size))).all z h)); clear p0 p1 p2 p3 y0 y1 y2 y3 y4 y5 x0 x1 x2 x3 x4 x5; obtain ⟨x0, x1, x2, x3, x4, x5⟩ := HMK _ hq))
    all_goals
      have hown9 := own_base (hnew2.1.kept hg4 (own_not hnew2.1 (Nat.lt_of_lt_of_le bR5.lt hq9.size))) hq9.size
      have bN9 := (bN5.next hq).kept hg4 (by simp; omega)
      have hbl := below_grown (hB5.trans (hq.mono hB5.size)) hg4 (Nat.le_refl _) (by omega)
      have hMF : MadeFs w (.slice a l.length ca) l W' (.slice a9 (setN l1 ⟨xi, xk, xl, xd, xp, .slice none 0 0, []⟩).length c9) (setN l1 ⟨xi, xk, xl, xd, xp, .slice none 0 0, []⟩) := fun W hkW hvW => by
        have hEW := blk_ents (show Blk W gN _ _ from (hkW.2 gN (by omega) bN9.lt).trans bN9) (by unfold maxLen; omega)
        refine own_nds (own_kept hown9 hkW (by omega)) fun z hz => ?_
        rcases HM2.out z hz with rfl | rfl | h
        · exact Ents.nil_ _
        · exact hEW
        · exact hvW.all z h
      clear hnew2 hown9 bN9 n8 hS1
      go_wp2
      obtain ⟨⟨q0, q1, q2, q3⟩, _⟩ := hb4.four
      refine bodyPost_ret (v := .agg (fsC mi mb (xi + 1) (.slice a9 (setN l1 ⟨xi, xk, xl, xd, xp, .slice none 0 0, []⟩).length c9))) (by simp [results, Tryz.f93, go_sem, q0, q1, q2, q3]) rfl ?_
      exact ⟨_, .slice (some ⟨gN, 0, none⟩) m.length m.length, rfl, by rw [HXX.out, HP2.out]; exact hMF, hbl⟩
end Go.Proofs.YtkdmfeikikmiiaaGreat
