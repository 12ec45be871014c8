/- Walks: the document's way on, one name on. -/
import Derived.Test.YtkdmfeikikmiiaaGreatQMWalkD07
set_option linter.unusedVariables false
set_option linter.unusedSimpArgs false
namespace Go.Proofs.YtkdmfeikikmiiaaGreat
open Go.RowKit
set_option maxHeartbeats 16000000 in
set_option maxRecDepth 100000 in
theorem refOn_cons (mi mb nx : Int) (l : List Nd) (a : Option Addr) (ca : Nat) (fo : Bool) (g : Nat) (n : List UInt8) (r : List (List UInt8)) (hda : ∀ i, (getN l i).data.length ≤ 5000) (ht : r.length + 1 + g * 5001 ≤ 500000)
    (IH1 : OnC mi mb nx l (.slice a l.length ca) fo g r)
    (IH2 : ∀ g' t', g = g' + 1 → t'.length + g' * 5001 ≤ 500000 → OnC mi mb nx l (.slice a l.length ca) fo g' t') :
    OnC mi mb nx l (.slice a l.length ca) fo g (n :: r) := by
  intro s dir lo vt w hlo hv hst
  obtain ⟨b, o, M, ct, rfl, hM, hMc, hcm, hb, hcn, hcr⟩ := strs_cons hst
  unfold maxLen at hcm
  have bF := ((Blk.new w 28 (fsC mi mb nx (.slice a l.length ca))).alloc (.cells (spC s) 81)).alloc (.cells (spC zeroS) 81)
  have bS := (Blk.new (w.alloc (.cells (fsC mi mb nx (.slice a l.length ca)) 28)) 81 (spC s)).alloc (.cells (spC zeroS) 81)
  have bR := Blk.new ((w.alloc (.cells (fsC mi mb nx (.slice a l.length ca)) 28)).alloc (.cells (spC s) 81)) 81 (spC zeroS)
  have hB0 : Below w.heap.size w (((w.alloc (.cells (fsC mi mb nx (.slice a l.length ca)) 28)).alloc (.cells (spC s) 81)).alloc (.cells (spC zeroS) 81)) := (((Below.refl _ w).alloc (Nat.le_refl _) _).alloc (by simp) _).alloc (by simp; omega) _
  simp only [World.size_alloc] at bS bR
  have HV := Lib.hid hv
  have HCN := Lib.hid hcn
  have HCR := Lib.hid hcr
  have hm0 : ¬ (M : Int) = 0 := by omega
  have HLO := Lib.hid hlo
  clear hlo hst hcn hcr hv
  have hgone := on_gone (l := l) (fo := fo) (g := g) (s := s) (n := n) (r := r) (dir := dir)
  have hfile := on_file (l := l) (fo := fo) (g := g) (s := s) (n := n) (r := r) (dir := dir)
  have hdot := on_dot (l := l) (fo := fo) (g := g) (s := s) (n := n) (r := r) (dir := dir)
  have hdots := on_dots (l := l) (fo := fo) (g := g) (s := s) (n := n) (r := r) (dir := dir)
  have hstop := on_stop (l := l) (fo := fo) (g := g) (s := s) (n := n) (r := r) (dir := dir)
  have hloop : ∀ g0, g = g0 → g0 = 0 → _ := fun g0 (h1 : g = g0) (h2 : g0 = 0) => by
    have := on_loop (l := l) (fo := fo) (s := s) (n := n) (r := r) (dir := dir)
    rw [← h2, ← h1] at this
    exact this
  have hlong : ∀ g0, g = g0 + 1 → _ := fun g0 (h1 : g = g0 + 1) => by
    have := on_long (l := l) (fo := fo) (g := g0) (s := s) (n := n) (r := r) (dir := dir)
    rw [← h1] at this
    exact this
  have hlink : ∀ g0, g = g0 + 1 → _ := fun g0 (h1 : g = g0 + 1) => by
    have := on_link (l := l) (fo := fo) (g := g0) (s := s) (n := n) (r := r) (dir := dir)
    rw [← h1] at this
    exact this
  unfold lnkD at hlong hlink
  unfold stepS at hstop
  generalize onN l fo g s (n :: r) dir = Q at *
  obtain ⟨sd, sn, si⟩ := s
  dsimp only at hgone hfile hdot hdots hstop hloop hlong hlink bF bS hB0
  have HGONE := Lib.hid hgone
  clear hgone
  obtain ⟨⟨p0, p1, p2, p3⟩, _⟩ := bF.four
  obtain ⟨⟨s0, s1, s2⟩, _⟩ := bS.three
  obtain ⟨⟨r0, r1, r2⟩, e0, e1, e2⟩ := bR.three
  dsimp only at s0 s1 s2
  by_cases h0 : si = 0
  · have HN := Lib.hid (HGONE.out h0)
    subst h0
    clear hfile hdot hdots hstop hloop hlong hlink IH1 IH2 HGONE
    go_enter Tryz.func87, Tryz.ntmps87
    go_wp2
    refine bodyPost_ret (v := .tuple #[.agg #[.int .i64 0, .string ⟨#[]⟩, .int .i64 0], .int .i64 1]) (by simp [results, Tryz.f87, go_sem, r0, r1, r2]) rfl ?_
    exact ⟨by rw [HN.out], hB0⟩
  have HFILE := Lib.hid (fun hk => hfile h0 hk)
  have HDOT := Lib.hid (fun hk hn => hdot h0 hk hn)
  have HDOTS := Lib.hid (fun hk hn => hdots h0 hk hn)
  have HSTOP := Lib.hid (fun hk h1 h2 h3 => hstop h0 hk h1 h2 h3)
  have HLOOP := Lib.hid (fun (hg : g = 0) hk h1 h2 h3 => hloop g rfl hg h0 hk h1 h2 h3)
  have HLONG := Lib.hid (fun g0 hg hk h1 h2 h3 h4 => hlong g0 hg h0 hk h1 h2 h3 h4)
  have HLINK := Lib.hid (fun g0 hg hk h1 h2 h3 h4 => hlink g0 hg h0 hk h1 h2 h3 h4)
  have HI1 := Lib.hid IH1
  have HI2 := Lib.hid IH2
  have HDA := Lib.hid hda
  clear hfile hdot hdots hstop hloop hlong hlink IH1 IH2 HGONE hda r0 r1 r2 e0 e1 e2
  have hG := refGetT_any mi mb nx si l _ _ (HV.out.below hB0)
  have hEG := get_ents (HV.out.below hB0).all si
  obtain ⟨ag, ng, cg, hgs⟩ := get_slice HV.out si
  unfold stopB at HSTOP HLOOP HLONG HLINK
  generalize getN l si = G at *
  generalize hasN l si = hs at *
  obtain ⟨gi, gk, gl, gd, gp, ge, gn⟩ := G
  dsimp only at hgs hEG hG HFILE HDOT HDOTS HSTOP HLOOP HLONG HLINK
  subst hgs
  go_enter Tryz.func87, Tryz.ntmps87
  go_wp2_with fail
  refine hG.mono ?_
  rintro e w1 ⟨rfl, b1⟩
  clear hG p0 p1 p2 p3 s0 s1 s2
  have b2 := alloc_below w1 (.cells (ndC ⟨gi, gk, gl, gd, gp, .slice ag ng cg, gn⟩) 49)
  have b3 := b1.trans (b2.mono b1.size)
  have bX := Blk.new w1 49 (ndC ⟨gi, gk, gl, gd, gp, .slice ag ng cg, gn⟩)
  have hB := hB0.trans (b3.mono hB0.size)
  have bF2 := bF.next b3
  have bR2 := bR.next b3
  have hEG2 := hEG.below b3
  have c1 := (hB.cell (p := ⟨b, o, none⟩) hb).trans HCN.out
  clear b1 b2 b3 hB0 bF bS bR hEG
  obtain ⟨⟨x0, x1, x2, x3, x4, x5⟩, _⟩ := bX.six
  obtain ⟨⟨p0, p1, p2, p3⟩, _⟩ := bF2.four
  obtain ⟨⟨r0, r1, r2⟩, e0, e1, e2⟩ := bR2.three
  dsimp only at x0 x1 x2 x3 x4 x5
  by_cases hk2 : gk = 2
  · subst hk2
    clear HFILE r0 r1 r2 e0 e1 e2
    go_upto_region 12 with fail
    go_cut [19] from 65 to 66 (fun s19 wc => wc = w1.alloc (.cells (ndC ⟨gi, 2, gl, gd, gp, .slice ag ng cg, gn⟩) 49) ∧ ∃ a' c', s19 = .slice a' r.length c' ∧ Aside (StrsC w (.slice a' r.length c') r))
    case first =>
      have q1 : (1 : Int) ≤ (M : Int) := by omega
      have q2 : (M : Int) ≤ (ct : Int) := by omega
      have q3 : ¬ ct = 0 := by omega
      have q4 : (1 : Int) ≤ (ct : Int) := by omega
      have q5 : 1 ≤ ct := by omega
      have q6 : 0 < ct := by omega
      clear HDOT HDOTS HSTOP HLOOP HLONG HLINK HI1 HI2
      go_wp2_with fail
      all_goals try subst_vars
      all_goals go_meet
      all_goals refine ⟨rfl, _, _, rfl, ?_⟩
      all_goals first
        | exact strs_rest hb HCR.out _ _ _ rfl (by omega) (by unfold maxLen; omega) (fun h => by cases h) (fun h => rfl)
        | exact strs_rest hb HCR.out _ _ _ rfl (by omega) (by unfold maxLen; omega) (fun h => by cases h) (fun h => by omega)
    case rest =>
      obtain ⟨hwc, ar, cr, rfl, HT⟩ := hcut
      subst hwc
      clear c1 HCR HCN hm0
      generalize w1.alloc (.cells (ndC ⟨gi, 2, gl, gd, gp, .slice ag ng cg, gn⟩) 49) = w2 at *
      have hHV := HV.out.below hB
      have hHT := HT.out.below hB
      by_cases hn1 : n = [46]
      · subst hn1
        have hq := HDOT.out (by trivial) rfl
        have hC := HI1.out ⟨0, [], gi⟩ dir lo _ w2 HLO.out hHV hHT
        rw [← hq] at hC
        clear hq HDOT HDOTS HSTOP HLOOP HLONG HLINK HI1 HI2
        (obtain ⟨⟨qa, qb, qc⟩, qe⟩ := Q; dsimp only at hC; go_wp2_with fail; refine hC.mono ?_; rintro e wz ⟨rfl, bz⟩; clear hC p0 p1 p2 p3 x0 x1 x2 x3 x4 x5; have bRz := bR2.next bz; have hBz := hB.trans (bz.mono hB.size); obtain ⟨⟨r0, r1, r2⟩, e0, e1, e2⟩ := bRz.three; obtain ⟨W', hW', hb3, hg3⟩ := bRz.put3 (.int .i64 qa) (.string ⟨qb.toArray⟩) (.int .i64 qc); have hbl := below_grown hBz hg3 (Nat.le_refl _) (by omega); go_wp2; obtain ⟨⟨y0, y1, y2⟩, _⟩ := hb3.three; refine bodyPost_ret (v := .tuple #[.agg (spC ⟨qa, qb, qc⟩), .int .i64 qe]) (by simp [results, Tryz.f87, go_sem, y0, y1, y2]) rfl ?_; exact ⟨rfl, hbl⟩)
      by_cases hn2 : n = [46, 46]
      · subst hn2
        have hq := HDOTS.out (by trivial) rfl
        have hC := HI1.out ⟨0, [], gp⟩ dir lo _ w2 HLO.out hHV hHT
        rw [← hq] at hC
        clear hq HDOT HDOTS HSTOP HLOOP HLONG HLINK HI1 HI2
        (obtain ⟨⟨qa, qb, qc⟩, qe⟩ := Q; dsimp only at hC; go_wp2_with fail; refine hC.mono ?_; rintro e wz ⟨rfl, bz⟩; clear hC p0 p1 p2 p3 x0 x1 x2 x3 x4 x5; have bRz := bR2.next bz; have hBz := hB.trans (bz.mono hB.size); obtain ⟨⟨r0, r1, r2⟩, e0, e1, e2⟩ := bRz.three; obtain ⟨W', hW', hb3, hg3⟩ := bRz.put3 (.int .i64 qa) (.string ⟨qb.toArray⟩) (.int .i64 qc); have hbl := below_grown hBz hg3 (Nat.le_refl _) (by omega); go_wp2; obtain ⟨⟨y0, y1, y2⟩, _⟩ := hb3.three; refine bodyPost_ret (v := .tuple #[.agg (spC ⟨qa, qb, qc⟩), .int .i64 qe]) (by simp [results, Tryz.f87, go_sem, y0, y1, y2]) rfl ?_; exact ⟨rfl, hbl⟩)
      have hs1 : (n == [46]) = false := by simpa using hn1
      have hs2 : (n == [46, 46]) = false := by simpa using hn2
      have hFI := refFind_any gn n _ _ hEG2
      have hGc := fun m => refGetT_any mi mb nx m l _ w2 hHV
      generalize numB gn n = m at *
      generalize hasB gn n = th at *
      have hG2 := hGc m
      obtain ⟨ay, ny, cy, hys⟩ := get_slice HV.out m
      have hyd := HDA.out m
      clear hGc
      generalize getN l m = Y at *
      generalize hasN l m = hm2 at *
      obtain ⟨yi, yk, yl, yd, yp, ye, yn⟩ := Y
      dsimp only at hys hyd hG2 HSTOP HLOOP HLONG HLINK
      subst hys
      have HSTOP2 := Lib.hid (fun h => HSTOP.out (by trivial) hn1 hn2 h)
      have HLOOP2 := Lib.hid (fun hg h => HLOOP.out hg (by trivial) hn1 hn2 h)
      have HLONG2 := Lib.hid (fun g0 hg h h4 => HLONG.out g0 hg (by trivial) hn1 hn2 h h4)
      have HLINK2 := Lib.hid (fun g0 hg h h4 => HLINK.out g0 hg (by trivial) hn1 hn2 h h4)
      clear HDOT HDOTS HSTOP HLOOP HLONG HLINK hn1 hn2
      go_wp2_with fail
      refine hFI.mono ?_
      rintro e wz ⟨rfl, hwz⟩
      subst hwz
      clear hFI
      go_wp2_with fail
      refine hG2.mono ?_
      rintro e w3 ⟨rfl, b3⟩
      clear hG2 p0 p1 p2 p3 x0 x1 x2 x3 x4 x5
      have b4 := b3.trans ((alloc_below w3 (.cells (ndC ⟨yi, yk, yl, yd, yp, .slice ay ny cy, yn⟩) 49)).mono b3.size)
      have bY := Blk.new w3 49 (ndC ⟨yi, yk, yl, yd, yp, .slice ay ny cy, yn⟩)
      replace bX := bX.next b4
      replace bF2 := bF2.next b4
      replace bR2 := bR2.next b4
      replace hB := hB.trans (b4.mono hB.size)
      replace hHV := hHV.below b4
      replace hHT := hHT.below b4
      clear b3 b4 hEG2
      obtain ⟨⟨x0, x1, x2, x3, x4, x5⟩, _⟩ := bX.six
      obtain ⟨⟨y0, y1, y2, y3, y4, y5⟩, _⟩ := bY.six
      obtain ⟨⟨p0, p1, p2, p3⟩, _⟩ := bF2.four
      dsimp only at x0 x1 x2 x3 x4 x5 y0 y1 y2 y3 y4 y5
      go_upto_region 19 with fail
      generalize w3.alloc (.cells #[.int .i64 yi, .int .i64 yk, .int .i64 yl, .string ⟨yd.toArray⟩, .int .i64 yp, .slice ay ny cy] 49) = w4 at *
      go_cut [125] from 106 to 124 (fun s125 wc => wc = w4 ∧ s125 = .bool (!th || yk != 3 || (r.isEmpty && !fo && !dir)))
      case first =>
        clear HSTOP2 HLOOP2 HLONG2 HLINK2 HI1 HI2
        cases th
        · go_wp2_with fail
          go_meet
          exact ⟨rfl, rfl⟩
        · by_cases hy3 : yk = 3
          · subst hy3
            by_cases hr : r = []
            · subst hr
              cases fo
              · cases dir
                · go_wp2_with fail
                  go_meet
                  exact ⟨rfl, rfl⟩
                · go_wp2_with fail
                  go_meet
                  exact ⟨rfl, rfl⟩
              · go_wp2_with fail
                go_meet
                exact ⟨rfl, rfl⟩
            · have hrl : ¬ (r.length : Int) = 0 := by have := List.length_pos_iff.2 hr; omega
              have hre : r.isEmpty = false := by simpa using hr
              go_wp2_with fail
              go_meet
              exact ⟨rfl, by rw [hre]; rfl⟩
          · have hy4 : (yk != 3) = true := by simpa using hy3
            go_wp2_with fail
            go_meet
            exact ⟨rfl, by rw [hy4]; rfl⟩
      case rest =>
        obtain ⟨hwc, rfl⟩ := hcut
        subst hwc
        generalize hST : (!th || yk != 3 || (r.isEmpty && !fo && !dir)) = st at *
        cases st
        · by_cases hg0 : g = 0
          · have HN := Lib.hid (HLOOP2.out hg0 rfl)
            obtain rfl : lo = 40 := by have := HLO.out; omega
            clear HSTOP2 HLOOP2 HLONG2 HLINK2 HI1 HI2
            (obtain ⟨⟨r0, r1, r2⟩, e0, e1, e2⟩ := bR2.three; obtain ⟨W', hW', hb3, hg3⟩ := bR2.put3 (.int .i64 0) (.string ⟨#[]⟩) (.int .i64 0); have hbl := below_grown hB hg3 (Nat.le_refl _) (by omega); go_wp2; obtain ⟨⟨y0, y1, y2⟩, _⟩ := hb3.three; refine bodyPost_ret (v := .tuple #[.agg #[.int .i64 0, .string ⟨#[]⟩, .int .i64 0], .int .i64 6]) (by simp [results, Tryz.f87, go_sem, y0, y1, y2]) rfl ?_; exact ⟨by rw [HN.out], hbl⟩)
          obtain ⟨g0, hg1⟩ : ∃ g0, g = g0 + 1 := ⟨g - 1, by omega⟩
          have hlo4 : ¬ lo = 40 := by have := HLO.out; omega
          have hlo5 : -100 ≤ lo ∧ lo < 40 := by have := HLO.out; omega
          have hLg := refLong_any yd wc (by omega)
          cases hl : longB yd
          · rw [hl] at hLg
            have HQ := Lib.hid (HLINK2.out g0 hg1 rfl hl)
            clear HSTOP2 HLOOP2 HLONG2 HLINK2
            go_wp2_with fail
            refine hLg.mono ?_
            rintro e w5 ⟨rfl, b5⟩
            clear hLg x0 x1 x2 x3 x4 x5 y0 y1 y2 y3 y4 y5 p0 p1 p2 p3
            have bX5 := bX.next b5
            have bY5 := bY.next b5
            obtain ⟨⟨x0, x1, x2, x3, x4, x5⟩, _⟩ := bX5.six
            obtain ⟨⟨y0, y1, y2, y3, y4, y5⟩, _⟩ := bY5.six
            dsimp only at x0 x1 x2 x3 x4 x5 y0 y1 y2 y3 y4 y5
            go_wp2_with fail
            refine (refReadC_any yd _ (by omega)).mono ?_
            rintro e w6 ⟨vn, rfl, hNS, b6⟩
            obtain ⟨an, nn, cn, rfl, _⟩ := id hNS.2
            have b56 := b5.trans (b6.mono b5.size)
            have b7 := b56.trans ((alloc_below w6 (.cells (pathR (absB yd) (.slice an nn cn) (slashB yd)) 86)).mono b56.size)
            have hRl : w.heap.size + 1 + 1 < w6.heap.size := (bR2.next b56).lt
            have bP := Blk.new w6 86 (pathR (absB yd) (.slice an nn cn) (slashB yd))
            replace hNS := hNS.below (alloc_below w6 (.cells (pathR (absB yd) (.slice an nn cn) (slashB yd)) 86))
            replace bX := bX.next b7
            replace bF2 := bF2.next b7
            replace bR2 := bR2.next b7
            replace hB := hB.trans (b7.mono hB.size)
            replace hHV := hHV.below b7
            replace hHT := hHT.below b7
            clear b5 b6 b56 bX5 bY5 x0 x1 x2 x3 x4 x5 y0 y1 y2 y3 y4 y5 bY
            have hct := namesB_count yd
            obtain rfl := (strs_src hNS).1
            generalize namesB yd = ns at *
            generalize absB yd = ab at *
            generalize slashB yd = sl at *
            obtain ⟨⟨x0, x1, x2, x3, x4, x5⟩, _⟩ := bX.six
            have z0 := (bP.cell 0).trans rfl
            have z1 := (bP.cell 1).trans rfl
            have z2 := (bP.cell 2).trans rfl
            dsimp only at x0 x1 x2 x3 x4 x5
            simp only [pathR] at z0 z1 z2
            go_upto_if 152 with (fail)
            go_cut [25] from 151 (fun s25 wc => wc = w6.alloc (.cells #[.bool ab, .slice an ns.length cn, .bool sl] 86) ∧ s25 = .int .i64 (if ab = true then 1 else gi))
            case first =>
              clear HQ HI1 HI2
              cases ab
              · go_wp2_with fail
                go_meet
                exact ⟨rfl, rfl⟩
              · go_wp2_with fail
                go_meet
                exact ⟨rfl, rfl⟩
            case rest =>
            obtain ⟨hwc, rfl⟩ := hcut
            subst hwc
            generalize (if ab = true then (1 : Int) else gi) = fr at *
            generalize w6.alloc (.cells #[.bool ab, .slice an ns.length cn, .bool sl] 86) = w7 at *
            generalize w6.heap.size = BP at *
            go_upto_region 29 with fail
            go_cut [159] from 153 to 158 (fun s159 wc => wc = w7 ∧ s159 = .bool (sl && r.isEmpty))
            case first =>
              clear HQ HI1 HI2
              cases sl
              · go_wp2_with fail
                go_meet
                exact ⟨rfl, rfl⟩
              · by_cases hr : r = []
                · subst hr
                  go_wp2_with fail
                  go_meet
                  exact ⟨rfl, rfl⟩
                · have hrl : ¬ (r.length : Int) = 0 := by have := List.length_pos_iff.2 hr; omega
                  have hre : r.isEmpty = false := by simpa using hr
                  have hrb : ((r.length : Int) == 0) = false := by rw [beq_eq_false_iff_ne]; exact hrl
                  go_wp2_with fail
                  go_meet
                  exact ⟨rfl, by rw [hre]; rfl⟩
            case rest =>
            obtain ⟨hwc, rfl⟩ := hcut
            subst hwc
            rename World => w7
            generalize hSR : (sl && r.isEmpty) = sr at *
            have hwl : IntKind.i64.wrap (lo + 1) = lo + 1 := by rw [IntKind.wrap_i64]; omega
            obtain ⟨is, hsi, hs0, hs1, hs2⟩ := info_parts Tryz.infoS2
            cases sr
            · have hq : Q = onN l fo g0 ⟨0, [], fr⟩ (ns ++ r) dir := by rw [HQ.out, Bool.or_false]
              clear HQ hSR
              obtain ⟨⟨qa, qb, qc⟩, qe⟩ := Q
              have hC : ∀ vt W, Nds W (.slice a l.length ca) l → StrsC W vt (ns ++ r) → Calls Tryz.prog 87 #[.agg (fsC mi mb nx (.slice a l.length ca)), .agg (spC ⟨0, [], fr⟩), vt, .bool fo, .bool dir, .int .i64 (lo + 1)] W fun e w' =>
                  e = .returned (.tuple #[.agg (spC ⟨qa, qb, qc⟩), .int .i64 qe]) ∧ Below W.heap.size W w' := fun vt W hW hT => by
                have := HI2.out g0 (ns ++ r) hg1 (by rw [List.length_append]; omega) ⟨0, [], fr⟩ dir (lo + 1) vt W (by have := HLO.out; omega) hW hT
                rwa [← hq] at this
              clear hq HI1 HI2
              go_upto_region 31 with fail
              have HMK : ∀ W, Below w7.heap.size w7 W → (W.cell? ⟨w.heap.size, 0, none⟩ = some (.int .i64 mi) ∧ W.cell? ⟨w.heap.size, 1, none⟩ = some (.int .i64 mb) ∧ W.cell? ⟨w.heap.size, 2, none⟩ = some (.int .i64 nx) ∧ W.cell? ⟨w.heap.size, 3, none⟩ = some (.slice a l.length ca) ∧ W.cell? ⟨BP, 1, none⟩ = some (.slice an ns.length cn)) := by
                intro W h
                obtain ⟨⟨z0, z1, z2, z3⟩, _⟩ := (bF2.next h).four
                exact ⟨z0, z1, z2, z3, ((bP.next h).cell 1).trans rfl⟩
              have hq0 : Below w7.heap.size w7 w7.drew := (Below.refl _ _).drew
              have hq := hq0
              have hO : (w7.drew.alloc (.cells #[] 9)).ownsRow w7.heap.size 9 1 (.slice (some ⟨w7.heap.size, 0, none⟩) 0 0) 0 (strsV []) := World.ownsRow_lit _ #[] 0 (Nat.le_refl _) (by decide) rfl
              have hqA : Below w7.heap.size w7 (w7.drew.alloc (.cells #[] 9)) := hq0.alloc hq0.size _
              have hOB : (w7.alloc (.cells #[] 9)).drew.ownsRow w7.heap.size 9 1 (.slice (some ⟨w7.heap.size, 0, none⟩) 0 0) 0 (strsV []) := own_keep (World.ownsRow_lit w7 #[] 0 (Nat.le_refl _) (by decide) rfl) (Below.refl _ _).drew
              have hqB : Below w7.heap.size w7 (w7.alloc (.cells #[] 9)).drew := (alloc_below w7 _).drew
              clear x0 x1 x2 x3 x4 x5 z0 z1 z2
              go_region_held3 (fun W => W.cell? ⟨w.heap.size, 0, none⟩ = some (.int .i64 mi) ∧ W.cell? ⟨w.heap.size, 1, none⟩ = some (.int .i64 mb) ∧ W.cell? ⟨w.heap.size, 2, none⟩ = some (.int .i64 nx) ∧ W.cell? ⟨w.heap.size, 3, none⟩ = some (.slice a l.length ca) ∧ W.cell? ⟨BP, 1, none⟩ = some (.slice an ns.length cn))
                (first | with_reducible exact HMS | with_reducible exact HMK _ hq | with_reducible exact HMK _ hqA | with_reducible exact HMK _ hqB)
                (first
                  | (refine step_append_any (by rfl) (.tmp 163) (.tmp 165) 84 9 (by rfl) Tryz.underlying84 hsi hs0 hs1 hs2 rfl (by decide) (by decide) w7.heap.size an _ cn _ (by rfl) (by rfl) hO (strs_src hNS).2.1 (strsV_len _) (strs_src (hNS.below hqA)).2.2 (strsV_one _) (by omega) hqA.size ?_; intro v5 w5 hown5 hb5; have hq := hqA.trans hb5)
                  | (refine step_append_any (by rfl) (.tmp 163) (.tmp 165) 84 9 (by rfl) Tryz.underlying84 hsi hs0 hs1 hs2 rfl (by decide) (by decide) w7.heap.size an _ cn _ (by rfl) (by rfl) hOB (strs_src hNS).2.1 (strsV_len _) (strs_src (hNS.below hqB)).2.2 (strsV_one _) (by omega) hqB.size ?_; intro v5 w5 hown5 hb5; have hq := hqB.trans hb5)
                  | (refine step_append_any (by rfl) (.tmp 166) (.tmp 167) 84 9 (by rfl) Tryz.underlying84 hsi hs0 hs1 hs2 rfl (by decide) (by decide) w7.heap.size ar _ cr _ (by rfl) (by rfl) hown5 (strs_src hHT).2.1 (strsV_len _) (strs_src (hHT.below hq)).2.2 (strsV_one _) (by simp; omega) hq.size ?_; intro v6 w6 hown6 hb6; have hq := hq.trans hb6; have hown6 : w6.ownsRow w7.heap.size 9 1 v6 (0 + ns.length + r.length) (strsV (ns ++ r)) := (by rw [strsV_append]; exact hown6))
                  | (go_at_call 87; refine (hC _ _ (hHV.below hq) (own_strsC hown6)).mono ?_; rintro e w8 ⟨rfl, b8⟩; have hq := hq.trans (b8.mono hq.size); have bRz := bR2.next hq; have hBz := hB.trans (hq.mono hB.size); obtain ⟨⟨r0, r1, r2⟩, e0, e1, e2⟩ := bRz.three; obtain ⟨W', hW', hb3, hg3⟩ := bRz.put3 (.int .i64 qa) (.string ⟨qb.toArray⟩) (.int .i64 qc); have hbl := below_grown hBz hg3 (Nat.le_refl _) (by omega); have HMS : (W'.cell? ⟨w.heap.size, 0, none⟩ = some (.int .i64 mi) ∧ W'.cell? ⟨w.heap.size, 1, none⟩ = some (.int .i64 mb) ∧ W'.cell? ⟨w.heap.size, 2, none⟩ = some (.int .i64 nx) ∧ W'.cell? ⟨w.heap.size, 3, none⟩ = some (.slice a l.length ca) ∧ W'.cell? ⟨BP, 1, none⟩ = some (.slice an ns.length cn)) := (by obtain ⟨⟨z0, z1, z2, z3⟩, _⟩ := ((bF2.next hq).kept hg3 (by simp; omega)).four; exact ⟨z0, z1, z2, z3, (((bP.next hq).kept hg3 (by simp; omega)).cell 1).trans rfl⟩)))
              all_goals go_wp2
              all_goals obtain ⟨⟨y0, y1, y2⟩, _⟩ := hb3.three
              all_goals refine bodyPost_ret (v := .tuple #[.agg (spC ⟨qa, qb, qc⟩), .int .i64 qe]) (by simp [results, Tryz.f87, go_sem, y0, y1, y2]) rfl ?_
              all_goals exact ⟨rfl, hbl⟩
            · have hq : Q = onN l fo g0 ⟨0, [], fr⟩ (ns ++ r) true := by rw [HQ.out, Bool.or_true]
              clear HQ hSR
              obtain ⟨⟨qa, qb, qc⟩, qe⟩ := Q
              have hC : ∀ vt W, Nds W (.slice a l.length ca) l → StrsC W vt (ns ++ r) → Calls Tryz.prog 87 #[.agg (fsC mi mb nx (.slice a l.length ca)), .agg (spC ⟨0, [], fr⟩), vt, .bool fo, .bool true, .int .i64 (lo + 1)] W fun e w' =>
                  e = .returned (.tuple #[.agg (spC ⟨qa, qb, qc⟩), .int .i64 qe]) ∧ Below W.heap.size W w' := fun vt W hW hT => by
                have := HI2.out g0 (ns ++ r) hg1 (by rw [List.length_append]; omega) ⟨0, [], fr⟩ true (lo + 1) vt W (by have := HLO.out; omega) hW hT
                rwa [← hq] at this
              clear hq HI1 HI2
              go_upto_region 31 with fail
              have HMK : ∀ W, Below w7.heap.size w7 W → (W.cell? ⟨w.heap.size, 0, none⟩ = some (.int .i64 mi) ∧ W.cell? ⟨w.heap.size, 1, none⟩ = some (.int .i64 mb) ∧ W.cell? ⟨w.heap.size, 2, none⟩ = some (.int .i64 nx) ∧ W.cell? ⟨w.heap.size, 3, none⟩ = some (.slice a l.length ca) ∧ W.cell? ⟨BP, 1, none⟩ = some (.slice an ns.length cn)) := by
                intro W h
                obtain ⟨⟨z0, z1, z2, z3⟩, _⟩ := (bF2.next h).four
                exact ⟨z0, z1, z2, z3, ((bP.next h).cell 1).trans rfl⟩
              have hq0 : Below w7.heap.size w7 w7.drew := (Below.refl _ _).drew
              have hq := hq0
              have hO : (w7.drew.alloc (.cells #[] 9)).ownsRow w7.heap.size 9 1 (.slice (some ⟨w7.heap.size, 0, none⟩) 0 0) 0 (strsV []) := World.ownsRow_lit _ #[] 0 (Nat.le_refl _) (by decide) rfl
              have hqA : Below w7.heap.size w7 (w7.drew.alloc (.cells #[] 9)) := hq0.alloc hq0.size _
              have hOB : (w7.alloc (.cells #[] 9)).drew.ownsRow w7.heap.size 9 1 (.slice (some ⟨w7.heap.size, 0, none⟩) 0 0) 0 (strsV []) := own_keep (World.ownsRow_lit w7 #[] 0 (Nat.le_refl _) (by decide) rfl) (Below.refl _ _).drew
              have hqB : Below w7.heap.size w7 (w7.alloc (.cells #[] 9)).drew := (alloc_below w7 _).drew
              clear x0 x1 x2 x3 x4 x5 z0 z1 z2
              go_region_held3 (fun W => W.cell? ⟨w.heap.size, 0, none⟩ = some (.int .i64 mi) ∧ W.cell? ⟨w.heap.size, 1, none⟩ = some (.int .i64 mb) ∧ W.cell? ⟨w.heap.size, 2, none⟩ = some (.int .i64 nx) ∧ W.cell? ⟨w.heap.size, 3, none⟩ = some (.slice a l.length ca) ∧ W.cell? ⟨BP, 1, none⟩ = some (.slice an ns.length cn))
                (first | with_reducible exact HMS | with_reducible exact HMK _ hq | with_reducible exact HMK _ hqA | with_reducible exact HMK _ hqB)
                (first
                  | (refine step_append_any (by rfl) (.tmp 163) (.tmp 165) 84 9 (by rfl) Tryz.underlying84 hsi hs0 hs1 hs2 rfl (by decide) (by decide) w7.heap.size an _ cn _ (by rfl) (by rfl) hO (strs_src hNS).2.1 (strsV_len _) (strs_src (hNS.below hqA)).2.2 (strsV_one _) (by omega) hqA.size ?_; intro v5 w5 hown5 hb5; have hq := hqA.trans hb5)
                  | (refine step_append_any (by rfl) (.tmp 163) (.tmp 165) 84 9 (by rfl) Tryz.underlying84 hsi hs0 hs1 hs2 rfl (by decide) (by decide) w7.heap.size an _ cn _ (by rfl) (by rfl) hOB (strs_src hNS).2.1 (strsV_len _) (strs_src (hNS.below hqB)).2.2 (strsV_one _) (by omega) hqB.size ?_; intro v5 w5 hown5 hb5; have hq := hqB.trans hb5)
                  | (refine step_append_any (by rfl) (.tmp 166) (.tmp 167) 84 9 (by rfl) Tryz.underlying84 hsi hs0 hs1 hs2 rfl (by decide) (by decide) w7.heap.size ar _ cr _ (by rfl) (by rfl) hown5 (strs_src hHT).2.1 (strsV_len _) (strs_src (hHT.below hq)).2.2 (strsV_one _) (by simp; omega) hq.size ?_; intro v6 w6 hown6 hb6; have hq := hq.trans hb6; have hown6 : w6.ownsRow w7.heap.size 9 1 v6 (0 + ns.length + r.length) (strsV (ns ++ r)) := (by rw [strsV_append]; exact hown6))
                  | (go_at_call 87; refine (hC _ _ (hHV.below hq) (own_strsC hown6)).mono ?_; rintro e w8 ⟨rfl, b8⟩; have hq := hq.trans (b8.mono hq.size); have bRz := bR2.next hq; have hBz := hB.trans (hq.mono hB.size); obtain ⟨⟨r0, r1, r2⟩, e0, e1, e2⟩ := bRz.three; obtain ⟨W', hW', hb3, hg3⟩ := bRz.put3 (.int .i64 qa) (.string ⟨qb.toArray⟩) (.int .i64 qc); have hbl := below_grown hBz hg3 (Nat.le_refl _) (by omega); have HMS : (W'.cell? ⟨w.heap.size, 0, none⟩ = some (.int .i64 mi) ∧ W'.cell? ⟨w.heap.size, 1, none⟩ = some (.int .i64 mb) ∧ W'.cell? ⟨w.heap.size, 2, none⟩ = some (.int .i64 nx) ∧ W'.cell? ⟨w.heap.size, 3, none⟩ = some (.slice a l.length ca) ∧ W'.cell? ⟨BP, 1, none⟩ = some (.slice an ns.length cn)) := (by obtain ⟨⟨z0, z1, z2, z3⟩, _⟩ := ((bF2.next hq).kept hg3 (by simp; omega)).four; exact ⟨z0, z1, z2, z3, (((bP.next hq).kept hg3 (by simp; omega)).cell 1).trans rfl⟩)))
              all_goals go_wp2
              all_goals obtain ⟨⟨y0, y1, y2⟩, _⟩ := hb3.three
              all_goals refine bodyPost_ret (v := .tuple #[.agg (spC ⟨qa, qb, qc⟩), .int .i64 qe]) (by simp [results, Tryz.f87, go_sem, y0, y1, y2]) rfl ?_
              all_goals exact ⟨rfl, hbl⟩
          · rw [hl] at hLg
            have HN := Lib.hid (HLONG2.out g0 hg1 rfl hl)
            clear HSTOP2 HLOOP2 HLONG2 HLINK2 HI1 HI2
            go_wp2_with fail
            refine hLg.mono ?_
            rintro e w5 ⟨rfl, b5⟩
            clear hLg x0 x1 x2 x3 x4 x5 y0 y1 y2 y3 y4 y5 p0 p1 p2 p3
            replace bR2 := bR2.next b5
            replace hB := hB.trans (b5.mono hB.size)
            (obtain ⟨⟨r0, r1, r2⟩, e0, e1, e2⟩ := bR2.three; obtain ⟨W', hW', hb3, hg3⟩ := bR2.put3 (.int .i64 0) (.string ⟨#[]⟩) (.int .i64 0); have hbl := below_grown hB hg3 (Nat.le_refl _) (by omega); go_wp2; obtain ⟨⟨y0, y1, y2⟩, _⟩ := hb3.three; refine bodyPost_ret (v := .tuple #[.agg #[.int .i64 0, .string ⟨#[]⟩, .int .i64 0], .int .i64 7]) (by simp [results, Tryz.f87, go_sem, y0, y1, y2]) rfl ?_; exact ⟨by rw [HN.out], hbl⟩)
        · have hq := HSTOP2.out rfl
          have hC := HI1.out ⟨gi, n, m⟩ dir lo _ _ HLO.out hHV hHT
          rw [← hq] at hC
          clear hq HSTOP2 HLOOP2 HLONG2 HLINK2 HI1 HI2 y0 y1 y2 y3 y4 y5
          (obtain ⟨⟨qa, qb, qc⟩, qe⟩ := Q; dsimp only at hC; go_wp2_with fail; refine hC.mono ?_; rintro e wz ⟨rfl, bz⟩; clear hC p0 p1 p2 p3 x0 x1 x2 x3 x4 x5; have bRz := bR2.next bz; have hBz := hB.trans (bz.mono hB.size); obtain ⟨⟨r0, r1, r2⟩, e0, e1, e2⟩ := bRz.three; obtain ⟨W', hW', hb3, hg3⟩ := bRz.put3 (.int .i64 qa) (.string ⟨qb.toArray⟩) (.int .i64 qc); have hbl := below_grown hBz hg3 (Nat.le_refl _) (by omega); go_wp2; obtain ⟨⟨y0, y1, y2⟩, _⟩ := hb3.three; refine bodyPost_ret (v := .tuple #[.agg (spC ⟨qa, qb, qc⟩), .int .i64 qe]) (by simp [results, Tryz.f87, go_sem, y0, y1, y2]) rfl ?_; exact ⟨rfl, hbl⟩)
  · have HN := Lib.hid (HFILE.out hk2)
    obtain ⟨W', hW', hb3, hg3⟩ := bR2.put3 (.int .i64 0) (.string ⟨#[]⟩) (.int .i64 0)
    have hbl := below_grown hB hg3 (Nat.le_refl _) (by omega)
    clear HFILE HDOT HDOTS HSTOP HLOOP HLONG HLINK
    go_wp2
    obtain ⟨⟨y0, y1, y2⟩, _⟩ := hb3.three
    refine bodyPost_ret (v := .tuple #[.agg #[.int .i64 0, .string ⟨#[]⟩, .int .i64 0], .int .i64 3]) (by simp [results, Tryz.f87, go_sem, y0, y1, y2]) rfl ?_
    exact ⟨by rw [HN.out], hbl⟩
end Go.Proofs.YtkdmfeikikmiiaaGreat
