/- Walks: the document's New. -/
import Derived.Test.YtkdmfeikikmiiaaGreatQMWalkB05
import Derived.Test.YtkdmfeikikmiiaaGreatQMWalkK05
import Derived.Test.YtkdmfeikikmiiaaGreatQWalkE10
import Derived.Test.YtkdmfeikikmiiaaGreatQMWalkD07
import Derived.Test.YtkdmfeikikmiiaaGreatQMWalkB03
import Derived.Deep.RegionWith
set_option linter.unusedVariables false
set_option linter.unusedSimpArgs false
namespace Go.Proofs.YtkdmfeikikmiiaaGreat
open Go.RowKit
set_option maxHeartbeats 8000000 in
set_option maxRecDepth 100000 in
theorem refNew_any (mi mb nx k : Int) (l : List Nd) (s : Sp) (data : List UInt8) (v : Value) (w : World) (hv : Nds w v l) (hr : riseP l) (hso : sortP (getN l s.dir).ents) (hel : (getN l s.dir).ents.length ≤ 1000) (hl : l.length ≤ 100) (hby : bytesN l ≤ 1000000) (hdl : data.length ≤ 100000) (hn : s.name.length ≤ 100000) (hnx : -4611686018427387904 ≤ nx ∧ nx ≤ 4611686018427387904) :
    Calls Tryz.prog 83 #[.agg (fsC mi mb nx v), .agg (spC s), .int .i64 k, .string ⟨data.toArray⟩] w fun e w' => ∃ y ev, e = .returned (.tuple #[.agg (fsC mi mb (newF mi mb nx l s k data ev).1.1 y), .int .i64 (newF mi mb nx l s k data ev).2]) ∧ MadeFs w v l w' y (newF mi mb nx l s k data ev).1.2 ∧ Below w.heap.size w w' := by
  obtain ⟨a, ca, rfl⟩ := nds_slice hv
  obtain ⟨sd, sn, si⟩ := s
  dsimp only at hso hel hn
  have bF := ((Blk.new w 28 (fsC mi mb nx (.slice a l.length ca))).alloc (.cells (spC ⟨sd, sn, si⟩) 81)).alloc (.cells (fsC 0 0 0 (.slice none 0 0)) 28)
  have bS := (Blk.new (w.alloc (.cells (fsC mi mb nx (.slice a l.length ca)) 28)) 81 (spC ⟨sd, sn, si⟩)).alloc (.cells (fsC 0 0 0 (.slice none 0 0)) 28)
  have bR := Blk.new ((w.alloc (.cells (fsC mi mb nx (.slice a l.length ca)) 28)).alloc (.cells (spC ⟨sd, sn, si⟩) 81)) 28 (fsC 0 0 0 (.slice none 0 0))
  have hB0 : Below w.heap.size w (((w.alloc (.cells (fsC mi mb nx (.slice a l.length ca)) 28)).alloc (.cells (spC ⟨sd, sn, si⟩) 81)).alloc (.cells (fsC 0 0 0 (.slice none 0 0)) 28)) := (((Below.refl _ w).alloc (Nat.le_refl _) _).alloc (by simp) _).alloc (by simp; omega) _
  simp only [World.size_alloc] at bS bR
  have HV := Lib.hid hv
  have hEV := fun ev => newF_may (mi := mi) (mb := mb) (nx := nx) (l := l) (s := ⟨sd, sn, si⟩) (k := k) (data := data) (ev := ev)
  have hFU := fun ev => newF_full (mi := mi) (mb := mb) (nx := nx) (l := l) (s := ⟨sd, sn, si⟩) (k := k) (data := data) (ev := ev)
  have hOK := fun ev => newF_ok (mi := mi) (mb := mb) (nx := nx) (l := l) (s := ⟨sd, sn, si⟩) (k := k) (data := data) (ev := ev)
  have HEV := Lib.hid hEV
  have HFU := Lib.hid hFU
  have HOK := Lib.hid hOK
  clear hv hEV hFU hOK
  obtain ⟨⟨p0, p1, p2, p3⟩, _⟩ := bF.four
  obtain ⟨⟨s0, s1, s2⟩, _⟩ := bS.three
  dsimp only at s0 s1 s2
  have hMy := refMay_any sn (((w.alloc (.cells (fsC mi mb nx (.slice a l.length ca)) 28)).alloc (.cells (spC ⟨sd, sn, si⟩) 81)).alloc (.cells (fsC 0 0 0 (.slice none 0 0)) 28)) (by omega)
  go_enter Tryz.func83, Tryz.ntmps83
  cases hm : mayB sn
  · rw [hm] at hMy
    have HN := Lib.hid (fun ev => HEV.out ev hm)
    clear HEV HFU HOK
    go_wp2_with fail
    refine hMy.mono ?_
    rintro e wz ⟨rfl, hwz⟩
    subst hwz
    clear hMy
    obtain ⟨⟨r0, r1, r2, r3⟩, e0, e1, e2, e3⟩ := bR.four
    obtain ⟨W', hW', hb4, hg4⟩ := bR.put4 (.int .i64 mi) (.int .i64 mb) (.int .i64 nx) (.slice a l.length ca)
    have hbl := below_grown hB0 hg4 (Nat.le_refl _) (by omega)
    generalize ((w.alloc (.cells (fsC mi mb nx (.slice a l.length ca)) 28)).alloc (.cells (spC ⟨sd, sn, si⟩) 81)).alloc (.cells (fsC 0 0 0 (.slice none 0 0)) 28) = W0 at *
    go_wp2
    obtain ⟨⟨y0, y1, y2, y3⟩, _⟩ := hb4.four
    refine bodyPost_ret (v := .tuple #[.agg (fsC mi mb nx (.slice a l.length ca)), .int .i64 9]) (by simp [results, Tryz.f83, go_sem, y0, y1, y2, y3]) rfl ?_
    exact ⟨_, .slice none 0 0, by rw [HN.out], by rw [HN.out]; exact MadeFs.same _ _ _ _, hbl⟩
  · rw [hm] at hMy
    have hfc : -1099511627776 ≤ sizeK k data ∧ sizeK k data ≤ 1099511627776 := by unfold sizeK; split <;> omega
    have hkk : ∀ x : Int, (k = 1 → x = (data.length : Int)) → (k ≠ 1 → x = 0) → x = sizeK k data := by
      intro x h1 h2
      unfold sizeK
      split
      · rename_i h; exact h1 h
      · rename_i h; exact h2 h
    go_wp2_with fail
    refine hMy.mono ?_
    rintro e wz ⟨rfl, hwz⟩
    subst hwz
    clear hMy
    generalize ((w.alloc (.cells (fsC mi mb nx (.slice a l.length ca)) 28)).alloc (.cells (spC ⟨sd, sn, si⟩) 81)).alloc (.cells (fsC 0 0 0 (.slice none 0 0)) 28) = W0 at *
    go_upto_if 20 with (fail)
    go_cut [10] from 21 (fun s10 wc => wc = W0 ∧ s10 = .int .i64 (sizeK k data))
    case first =>
      by_cases hk1 : k = 1
      · subst hk1
        go_wp2_with fail
        go_meet
        exact ⟨rfl, rfl⟩
      · have := hkk 0 (fun h => absurd h hk1) (fun _ => rfl)
        go_wp2_with fail
        go_meet
        exact ⟨rfl, by rw [← this]⟩
    case rest =>
      obtain ⟨hwc, rfl⟩ := hcut
      subst hwc
      clear hkk
      have hFt := refFits_any mi mb nx 1 (sizeK k data) l _ _ (HV.out.below hB0) (by omega) (by omega) (by decide) hfc
      cases hf : fitsB mi mb l 1 (sizeK k data)
      · rw [hf] at hFt
        have HN := Lib.hid (fun ev => HFU.out ev hm hf)
        clear HEV HFU HOK
        go_wp2_with fail
        refine hFt.mono ?_
        rintro e w1 ⟨rfl, b1⟩
        clear hFt p0 p1 p2 p3 s0 s1 s2
        have bF1 := bF.next b1
        have bR1 := bR.next b1
        have hB1 := hB0.trans (b1.mono hB0.size)
        obtain ⟨⟨p0, p1, p2, p3⟩, _⟩ := bF1.four
        obtain ⟨⟨r0, r1, r2, r3⟩, e0, e1, e2, e3⟩ := bR1.four
        obtain ⟨W', hW', hb4, hg4⟩ := bR1.put4 (.int .i64 mi) (.int .i64 mb) (.int .i64 nx) (.slice a l.length ca)
        have hbl := below_grown hB1 hg4 (Nat.le_refl _) (by omega)
        go_wp2
        obtain ⟨⟨y0, y1, y2, y3⟩, _⟩ := hb4.four
        refine bodyPost_ret (v := .tuple #[.agg (fsC mi mb nx (.slice a l.length ca)), .int .i64 8]) (by simp [results, Tryz.f83, go_sem, y0, y1, y2, y3]) rfl ?_
        exact ⟨_, .slice none 0 0, by rw [HN.out], by rw [HN.out]; exact MadeFs.same _ _ _ _, hbl⟩
      · rw [hf] at hFt
        have HN := Lib.hid (fun ev => HOK.out ev hm hf)
        clear HEV HFU HOK
        go_wp2_with fail
        refine hFt.mono ?_
        rintro e w1 ⟨rfl, b1⟩
        clear hFt p0 p1 p2 p3 s0 s1 s2
        replace bF := bF.next b1
        replace bS := bS.next b1
        replace bR := bR.next b1
        replace hB0 := hB0.trans (b1.mono hB0.size)
        clear b1
        have hG := refGetT_any mi mb nx sd l _ _ (HV.out.below hB0)
        have hEG := get_ents (HV.out.below hB0).all sd
        have hP : ∀ ev x, newL l sd sn ev x = setN (setN l (moreD (getN l sd) sn x.ino ev)) x := fun _ _ => rfl
        unfold moreD at hP
        obtain ⟨ag, ng, cg, hgs⟩ := get_slice HV.out sd
        generalize getN l sd = G at *
        generalize hasN l sd = hs at *
        obtain ⟨gi, gk, gl, gd, gp, ge, gn⟩ := G
        dsimp only at hgs hEG hP hso hel
        subst hgs
        have HP := Lib.hid hP
        clear hP
        obtain ⟨⟨p0, p1, p2, p3⟩, _⟩ := bF.four
        obtain ⟨⟨s0, s1, s2⟩, _⟩ := bS.three
        dsimp only at s0 s1 s2
        go_wp2_with fail
        refine hG.mono ?_
        rintro e w2 ⟨rfl, b2⟩
        clear hG p0 p1 p2 p3 s0 s1 s2
        have b3 := b2.trans ((alloc_below w2 (.cells (ndC ⟨gi, gk, gl, gd, gp, .slice ag ng cg, gn⟩) 49)).mono b2.size)
        have bD := Blk.new w2 49 (ndC ⟨gi, gk, gl, gd, gp, .slice ag ng cg, gn⟩)
        have hRl : w.heap.size + 1 + 1 < w2.heap.size := (bR.next b2).lt
        replace bF := bF.next b3
        replace bS := bS.next b3
        replace bR := bR.next b3
        replace hB0 := hB0.trans (b3.mono hB0.size)
        replace hEG := hEG.below b3
        clear b2 b3
        obtain ⟨⟨p0, p1, p2, p3⟩, _⟩ := bF.four
        obtain ⟨⟨s0, s1, s2⟩, _⟩ := bS.three
        obtain ⟨⟨x0, x1, x2, x3, x4, x5⟩, _⟩ := bD.six
        dsimp only at s0 s1 s2 x0 x1 x2 x3 x4 x5
        have hWi := refWith_any gn sn nx _ _ hEG hso (by omega)
        go_wp2_with fail
        refine hWi.mono ?_
        rintro e w4 ⟨vn, rfl, hown, b4⟩
        clear hWi p0 p1 p2 p3 s0 s1 s2 x0 x1 x2 x3 x4 x5 hEG
        obtain ⟨an, cn, rfl⟩ := own_slice hown
        replace bF := bF.next b4
        replace bS := bS.next b4
        replace bR := bR.next b4
        replace bD := bD.next b4
        replace hB0 := hB0.trans (b4.mono hB0.size)
        have hoB : w2.heap.size < (w2.alloc (.cells (ndC ⟨gi, gk, gl, gd, gp, .slice ag ng cg, gn⟩) 49)).heap.size := by simp
        generalize hmm : withB gn sn nx = m at *
        have HMM := Lib.hid hmm
        clear hmm
        obtain ⟨⟨x0, x1, x2, x3, x4, x5⟩, f0, f1, f2, f3, f4, f5⟩ := bD.six
        dsimp only at x0 x1 x2 x3 x4 x5
        have bD5 := bD.set 5 (.slice an m.length cn)
        rw [nd_set5 gi gk gl gd gp (.slice ag ng cg) (.slice an m.length cn) gn m] at bD5
        have bF5 := bF.other (B2 := w2.heap.size) (i := 5) (by omega) (.slice an m.length cn)
        have bS5 := bS.other (B2 := w2.heap.size) (i := 5) (by omega) (.slice an m.length cn)
        have bR5 := bR.other (B2 := w2.heap.size) (i := 5) (by omega) (.slice an m.length cn)
        have hB5 := hB0.setCell (p := ⟨w2.heap.size, 5, none⟩) (by show w.heap.size ≤ w2.heap.size; omega) (.slice an m.length cn)
        have hown5 := World.ownsRow.kept hown (grownBy_set w4 w2.heap.size 5 (.slice an m.length cn)) (own_not hown hoB)
        have hbase : w.heap.size + 1 + 1 < (w2.alloc (.cells (ndC ⟨gi, gk, gl, gd, gp, .slice ag ng cg, gn⟩) 49)).heap.size := by simp; omega
        generalize (w2.alloc (.cells (ndC ⟨gi, gk, gl, gd, gp, .slice ag ng cg, gn⟩) 49)).heap.size = NB at *
        generalize hw5 : World.setCell w4 ⟨w2.heap.size, 5, none⟩ (.slice an m.length cn) = w5 at *
        clear bF bS bR bD hB0 hown b4
        generalize w2.heap.size = BD at *
        have bF6 := bF5.alloc (.cells (ndC ⟨nx, k, 1, data, 0, .slice none 0 0, []⟩) 49)
        have bS6 := bS5.alloc (.cells (ndC ⟨nx, k, 1, data, 0, .slice none 0 0, []⟩) 49)
        have bR6 := bR5.alloc (.cells (ndC ⟨nx, k, 1, data, 0, .slice none 0 0, []⟩) 49)
        have bD6 := bD5.alloc (.cells (ndC ⟨nx, k, 1, data, 0, .slice none 0 0, []⟩) 49)
        have bX6 := Blk.new w5 49 (ndC ⟨nx, k, 1, data, 0, .slice none 0 0, []⟩)
        have h56 := alloc_below w5 (.cells (ndC ⟨nx, k, 1, data, 0, .slice none 0 0, []⟩) 49)
        have hB6 := hB5.trans (h56.mono hB5.size)
        have hown6 := own_keep hown5 h56
        have hlX : BD < w5.heap.size := bD5.lt
        have hlB : w.heap.size + 1 + 1 < w5.heap.size := bR5.lt
        clear h56
        obtain ⟨⟨p0, p1, p2, p3⟩, _⟩ := bF5.four
        obtain ⟨⟨s0, s1, s2⟩, _⟩ := bS6.three
        dsimp only at s0 s1 s2
        go_upto_if 49 with (fail)
        go_cut [13] from 50 (fun s13 wc => s13 = .pointer (some ⟨w5.heap.size, 0, none⟩) ∧ Aside (Blk wc w.heap.size 28 (fsC mi mb nx (.slice a l.length ca)) ∧ Blk wc (w.heap.size + 1 + 1) 28 (fsC 0 0 0 (.slice none 0 0)) ∧ Blk wc BD 49 (ndC ⟨gi, gk, gl, gd, gp, .slice an m.length cn, m⟩) ∧ Blk wc w5.heap.size 49 (ndC (leafX nx k data sd)) ∧ wc.ownsRow NB 71 2 (.slice an m.length cn) m.length (entsV m) ∧ Below w.heap.size w wc))
        case first =>
          by_cases hk2 : k = 2
          · subst hk2
            go_wp2_with fail
            go_meet
            exact ⟨rfl, bF5.alloc _, bR5.alloc _, bD5.alloc _, Blk.new w5 _ (ndC (leafX nx 2 data sd)), own_keep hown5 (alloc_below w5 _), hB5.trans ((alloc_below w5 _).mono hB5.size)⟩
          · go_wp2_with fail
            go_meet
            exact ⟨rfl, bF6, bR6, bD6, by unfold leafX; rw [if_neg hk2]; exact bX6, hown6, hB6⟩
        case rest =>
          obtain ⟨rfl, HQ⟩ := hcut
          obtain ⟨bF7, bR7, bD7, bX7, hown7, hB7⟩ := HQ.out
          clear HQ bF5 bS5 bR5 bD5 hB5 hown5 bF6 bS6 bR6 bD6 bX6 hB6 hown6 p0 p1 p2 p3 s0 s1 s2
          rename World => w7
          generalize w5.heap.size = BX at *
          generalize hxx : leafX nx k data sd = x at *
          have hxi : x.ino = nx := by rw [← hxx]; rfl
          have hxe : x.ents = [] := by rw [← hxx]; rfl
          have hxv : x.ev = .slice none 0 0 := by rw [← hxx]; rfl
          have hP := HP.out (.slice an m.length cn) x
          rw [hxi, HMM.out] at hP
          obtain ⟨xi, xk, xl, xd, xp, xv, xe⟩ := x
          dsimp only at hxi hxe hxv
          subst hxi hxe hxv
          have hEN7 := own_ents hown7
          have hS1 := refSetT_any mi mb xi l ⟨gi, gk, gl, gd, gp, .slice an m.length cn, m⟩ _ w7.drew (HV.out.below (hB7.trans (((Below.refl w7.heap.size w7).drew).mono hB7.size))) (hEN7.below (Below.refl _ _).drew) hr (by omega)
          have hr1 : riseP (setN l ⟨gi, gk, gl, gd, gp, .slice an m.length cn, m⟩) := set_rise _ hr
          have hl1 := setN_len l ⟨gi, gk, gl, gd, gp, .slice an m.length cn, m⟩
          have hmem1 : ∀ z ∈ setN l ⟨gi, gk, gl, gd, gp, .slice an m.length cn, m⟩, z = ⟨gi, gk, gl, gd, gp, .slice an m.length cn, m⟩ ∨ z ∈ l := fun z hz => mem_setN hz
          generalize setN l ⟨gi, gk, gl, gd, gp, .slice an m.length cn, m⟩ = l1 at *
          have hmem2 : ∀ z ∈ setN l1 ⟨xi, xk, xl, xd, xp, .slice none 0 0, []⟩, z = ⟨xi, xk, xl, xd, xp, .slice none 0 0, []⟩ ∨ z = ⟨gi, gk, gl, gd, gp, .slice an m.length cn, m⟩ ∨ z ∈ l := fun z hz => by
            rcases mem_setN hz with h | h
            · exact .inl h
            · exact .inr (hmem1 z h)
          have hr2 : riseP (setN l1 ⟨xi, xk, xl, xd, xp, .slice none 0 0, []⟩) := set_rise _ hr1
          have HP2 := Lib.hid hP
          have HM1 := Lib.hid hmem1
          have HM2 := Lib.hid hmem2
          clear hP hmem1 hmem2
          have hq0 : Below w7.heap.size w7 w7.drew := (Below.refl _ _).drew
          have hq := hq0
          have hRB : w.heap.size + 1 + 1 < w7.heap.size := bR7.lt
          have hXne : BX ≠ w.heap.size := by omega
          have HMK : ∀ W, Below w7.heap.size w7 W → (W.cell? ⟨BX, 0, none⟩ = some (.int .i64 xi) ∧ W.cell? ⟨BX, 1, none⟩ = some (.int .i64 xk) ∧ W.cell? ⟨BX, 2, none⟩ = some (.int .i64 xl) ∧ W.cell? ⟨BX, 3, none⟩ = some (.string ⟨xd.toArray⟩) ∧ W.cell? ⟨BX, 4, none⟩ = some (.int .i64 xp) ∧ W.cell? ⟨BX, 5, none⟩ = some (.slice none 0 0)) := fun W h => (bX7.next h).six.1
          have bFd := bF7.next hq0
          have bDd := bD7.next hq0
          obtain ⟨⟨p0, p1, p2, p3⟩, _⟩ := bFd.four
          obtain ⟨⟨y0, y1, y2, y3, y4, y5⟩, _⟩ := bDd.six
          dsimp only at y0 y1 y2 y3 y4 y5
          go_upto_region 13 with fail
          go_cut [10] from 53 to 57 (fun s10 wc => s10 = .int .i64 (sizeK k data) ∧ ∃ a2 n2 c2, Aside (Blk wc w.heap.size 28 (fsC mi mb xi (.slice a2 n2 c2)) ∧ Blk wc (w.heap.size + 1 + 1) 28 (fsC 0 0 0 (.slice none 0 0)) ∧ wc.ownsRow w7.heap.size 49 6 (.slice a2 n2 c2) (setN l1 ⟨xi, xk, xl, xd, xp, .slice none 0 0, []⟩).length (ndsV (setN l1 ⟨xi, xk, xl, xd, xp, .slice none 0 0, []⟩)) ∧ wc.ownsRow NB 71 2 (.slice an m.length cn) m.length (entsV m) ∧ Below w.heap.size w wc ∧ w7.heap.size ≤ wc.heap.size))
          case first =>
            obtain ⟨x0, x1, x2, x3, x4, x5⟩ := HMK _ hq0
            go_region_with (first
                | (go_at_call 84; refine (refSetT_any mi mb xi l1 ⟨xi, xk, xl, xd, xp, .slice none 0 0, []⟩ _ _ n8 (Ents.nil_ _) hr1 (by omega)).mono ?_; rintro e w9 ⟨v9, rfl, hnew2⟩; obtain ⟨a9, c9, rfl⟩ := own_slice hnew2.1; have b9 := hnew2.2; have hq9 := hq; have hq := hq.trans (b9.mono hq.size); have bF9 := bF7.next hq; obtain ⟨⟨p0, p1, p2, p3⟩, e0, e1, e2, e3⟩ := bF9.four; obtain ⟨W', hW', hb4, hg4⟩ := bF9.put4 (.int .i64 mi) (.int .i64 mb) (.int .i64 xi) (.slice a9 (setN l1 ⟨xi, xk, xl, xd, xp, .slice none 0 0, []⟩).length c9))
                | (go_at_call 84; refine hS1.mono ?_; rintro e w8 ⟨v8, rfl, hnew⟩; obtain ⟨a8, c8, rfl⟩ := own_slice hnew.1; have b8 := hnew.2; have hq := hq.trans (b8.mono hq.size); have n8 := new_nds hnew (fun z hz => (HM1.out z hz).elim (fun h => by rw [h]; exact hEN7.below hq) (fun h => (HV.out.below (hB7.trans (hq.mono hB7.size))).all z h)); clear p0 p1 p2 p3 y0 y1 y2 y3 y4 y5 x0 x1 x2 x3 x4 x5; obtain ⟨x0, x1, x2, x3, x4, x5⟩ := HMK _ hq))
            all_goals (go_wp2_with fail; go_meet)
            all_goals exact ⟨rfl, a9, _, c9, hb4, (bR7.next hq).kept hg4 (by simp; omega), own_base (hnew2.1.kept hg4 (own_not hnew2.1 (Nat.lt_of_lt_of_le bF7.lt hq9.size))) hq9.size, (own_keep hown7 hq).kept hg4 (own_not hown7 (by omega)), below_grown (hB7.trans (hq.mono hB7.size)) hg4 (Nat.le_refl _) (Nat.le_refl _), by have h1 := hq.size; have h2 := hg4.size; omega⟩
          case rest =>
            obtain ⟨rfl, a2, n2, c2, HQ⟩ := hcut
            obtain ⟨bF8, bR8, hown8, hownE, hB8, hsz8⟩ := HQ.out
            rename World => w8
            have hn2 : n2 = (setN l1 ⟨xi, xk, xl, xd, xp, .slice none 0 0, []⟩).length := by
              obtain ⟨a5, c5, h5⟩ := own_slice hown8
              simp only [Value.slice.injEq] at h5
              exact h5.2.1
            subst hn2
            clear HQ p0 p1 p2 p3 y0 y1 y2 y3 y4 y5 bFd bDd bF7 bR7 bD7 bX7 hS1 HMK
            have bF9 := bF8.set 2 (.int .i64 (xi + 1))
            rw [show (fsC mi mb xi (.slice a2 (setN l1 ⟨xi, xk, xl, xd, xp, .slice none 0 0, []⟩).length c2)).setIfInBounds 2 (.int .i64 (xi + 1)) = fsC mi mb (xi + 1) (.slice a2 (setN l1 ⟨xi, xk, xl, xd, xp, .slice none 0 0, []⟩).length c2) from rfl] at bF9
            have hg9 := grownBy_set w8 w.heap.size 2 (.int .i64 (xi + 1))
            have bR9 := bR8.kept hg9 (by simp; omega)
            have hown9 := hown8.kept hg9 (own_not hown8 (by omega))
            have hownE9 := hownE.kept hg9 (own_not hownE (by omega))
            have hB9 := below_grown hB8 hg9 (Nat.le_refl _) (Nat.le_refl _)
            obtain ⟨⟨p0, p1, p2, p3⟩, f0, f1, f2, f3⟩ := bF8.four
            have hwx : IntKind.i64.wrap (xi + 1) = xi + 1 := by rw [IntKind.wrap_i64]; omega
            generalize hw9 : w8.setCell ⟨w.heap.size, 2, none⟩ (.int .i64 (xi + 1)) = w9 at *
            obtain ⟨⟨z0, z1, z2, z3⟩, _⟩ := bF9.four
            obtain ⟨⟨r0, r1, r2, r3⟩, e0, e1, e2, e3⟩ := bR9.four
            obtain ⟨W', hW', hb4, hg4⟩ := bR9.put4 (.int .i64 mi) (.int .i64 mb) (.int .i64 (xi + 1)) (.slice a2 (setN l1 ⟨xi, xk, xl, xd, xp, .slice none 0 0, []⟩).length c2)
            have hbl := below_grown hB9 hg4 (Nat.le_refl _) (by omega)
            have hNW : MadeFs w (.slice a l.length ca) l W' (.slice a2 (setN l1 ⟨xi, xk, xl, xd, xp, .slice none 0 0, []⟩).length c2) (setN l1 ⟨xi, xk, xl, xd, xp, .slice none 0 0, []⟩) := fun W hkW hvW => by
              have hEW := own_ents (own_kept (hownE9.kept hg4 (own_not hownE9 (by omega))) hkW (by omega))
              refine own_nds (own_kept (hown9.kept hg4 (own_not hown9 (by omega))) hkW (by omega)) fun z hz => ?_
              rcases HM2.out z hz with rfl | rfl | h
              · exact Ents.nil_ _
              · exact hEW
              · exact hvW.all z h
            clear bF8 bR8 hown8 hownE hB8 bF9 bR9 hown9 hownE9 hB9 hg9
            go_wp2
            obtain ⟨⟨q0, q1, q2, q3⟩, _⟩ := hb4.four
            refine bodyPost_ret (v := .tuple #[.agg (fsC mi mb (xi + 1) (.slice a2 (setN l1 ⟨xi, xk, xl, xd, xp, .slice none 0 0, []⟩).length c2)), .int .i64 0]) (by simp [results, Tryz.f83, go_sem, q0, q1, q2, q3]) rfl ?_
            exact ⟨_, .slice an m.length cn, by rw [HN.out], by rw [HN.out, HP2.out]; exact hNW, hbl⟩
end Go.Proofs.YtkdmfeikikmiiaaGreat
