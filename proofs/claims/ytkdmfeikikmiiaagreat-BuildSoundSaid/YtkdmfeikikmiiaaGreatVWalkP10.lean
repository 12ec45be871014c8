/- Walks: the program's Seek, Home and Dir. -/
import Derived.Test.YtkdmfeikikmiiaaGreatVWalkH10
import Derived.Test.YtkdmfeikikmiiaaGreatVWalkE10
set_option linter.unusedVariables false
set_option linter.unusedSimpArgs false
namespace Go.Proofs.YtkdmfeikikmiiaaGreat
open Go.RowKit
theorem Home_any (mi mb nx : Int) (l : List Nd) (base : List UInt8) (v : Value) (w : World) (hv : Nds w v l) (hok : OkS mi mb nx l) (hb : base.length ≤ 20000) :
    Calls Tryz.prog 103 #[.agg (fsC mi mb nx v), .string ⟨base.toArray⟩] w fun e w' => e = .returned (.tuple #[.int .i64 (homeP l base).1, .int .i64 (homeP l base).2]) ∧ Below w.heap.size w w' :=
  HomeC_any mi mb nx l base v w hv (by omega) hok.calm (leads_in hok base)
theorem own_below_strsC {w w' : World} {base : Nat} {e : TypeId} {v : Value} {n : Nat} {l : List (List UInt8)} (h : w.ownsRow base e 1 v n (strsV l)) (hb : Below w.heap.size w w') : StrsC w' v l := (own_strsC h).below hb
set_option maxHeartbeats 8000000 in
set_option maxRecDepth 100000 in
theorem Seek_any (mi mb nx : Int) (l : List Nd) (base p : List UInt8) (fo : Bool) (v : Value) (w : World) (hv : Nds w v l) (hok : OkS mi mb nx l) (hb : base.length ≤ 20000) (hp : p.length ≤ 20000) :
    Calls Tryz.prog 77 #[.agg (fsC mi mb nx v), .string ⟨base.toArray⟩, .string ⟨p.toArray⟩, .bool fo] w fun e w' => e = .returned (.tuple #[.agg (spC (seekP l base p fo).1), .int .i64 (seekP l base p fo).2]) ∧ Below w.heap.size w w' := by
  obtain ⟨a, ca, rfl⟩ := nds_slice hv
  have bF := (Blk.new w 28 (fsC mi mb nx (.slice a l.length ca))).alloc (.cells (spC zeroS) 81)
  have bR := Blk.new (w.alloc (.cells (fsC mi mb nx (.slice a l.length ca)) 28)) 81 (spC zeroS)
  have hB := ((Below.refl w.heap.size w).alloc (Nat.le_refl _) (.cells (fsC mi mb nx (.slice a l.length ca)) 28)).alloc (by simp) (.cells (spC zeroS) 81)
  simp only [World.size_alloc] at bR
  have HV := Lib.hid hv
  have HOK := Lib.hid hok
  clear hv hok
  by_cases h0 : p = []
  · subst h0
    have HN := Lib.hid (seek_empty l base fo)
    obtain ⟨⟨r0, r1, r2⟩, _⟩ := bR.three
    go_enter Tryz.func77, Tryz.ntmps77
    go_wp2
    refine bodyPost_ret (v := .tuple #[.agg #[.int .i64 0, .string ⟨#[]⟩, .int .i64 0], .int .i64 1]) (by simp [results, Tryz.f77, go_sem, r0, r1, r2]) rfl ?_
    exact ⟨by rw [HN.out], hB⟩
  have h0b : (p == []) = false := by simpa using h0
  have hLg := Long_any p (by omega) ((w.alloc (.cells (fsC mi mb nx (.slice a l.length ca)) 28)).alloc (.cells (spC zeroS) 81))
  cases hl : longB p
  · rw [hl] at hLg
    have H1 := Lib.hid (seek_abs (l := l) (base := base) (fo := fo) h0 hl)
    have H2 := Lib.hid (seek_bad (l := l) (base := base) (fo := fo) h0 hl)
    have H3 := Lib.hid (seek_from (l := l) (base := base) (fo := fo) h0 hl)
    have hct := namesB_count p
    have hDR : isDir l 1 = true := kind_has (tree_c HOK.out.check).rootDir
    have HDH := Lib.hid (fun h => home_dir (l := l) (base := base) h)
    have HON := Lib.hid (fun first ab sl vn w' (h1 : Nds w' (.slice a l.length ca) l) (h2 : isDir l first = true) (h3 : StrsC w' vn (namesB p)) => lead_any mi mb nx first l (namesB p) ab sl fo _ vn w' h1 HOK.out h2 h3 (by omega))
    have HHO := Lib.hid (fun w' (h : Nds w' (.slice a l.length ca) l) => Home_any mi mb nx l base _ w' h HOK.out hb)
    generalize seekP l base p fo = Q at *
    obtain ⟨⟨qa, qb, qc⟩, qe⟩ := Q
    dsimp only at ⊢
    clear h0
    go_enter Tryz.func77, Tryz.ntmps77
    go_wp2_with fail
    refine hLg.mono ?_
    rintro e w1 ⟨rfl, b1⟩
    clear hLg
    replace bF := bF.next b1
    replace bR := bR.next b1
    replace hB := hB.trans (b1.mono hB.size)
    go_wp2_with fail
    refine (Read_any p (by omega) _).mono ?_
    rintro e w2 ⟨vn, rfl, hNO, b2⟩
    obtain ⟨an, nn, cn, rfl, _⟩ := id (own_strsC hNO).2
    have b3 := alloc_below w2 (.cells (pathV (absB p) (.slice an nn cn) (slashB p)) 86)
    have b4 := b2.trans (b3.mono b2.size)
    have bP := Blk.new w2 86 (pathV (absB p) (.slice an nn cn) (slashB p))
    have hNS := own_below_strsC hNO b3
    replace bF := bF.next b4
    replace bR := bR.next b4
    replace hB := hB.trans (b4.mono hB.size)
    clear b1 b2 b3 b4 hNO
    obtain rfl := (strs_src hNS).1
    generalize namesB p = ns at *
    generalize absB p = ab at *
    generalize slashB p = sl at *
    have hNV := HV.out.below hB
    cases ab
    · have hHC := HHO.out _ hNV
      have h2 := H2.out rfl
      have h3 := H3.out rfl
      have h4 := HDH.out
      generalize homeP l base = h at *
      obtain ⟨hi, he⟩ := h
      dsimp only at hHC h2 h3 h4
      have G2 := Lib.hid h2
      have G3 := Lib.hid h3
      have G4 := Lib.hid h4
      clear H1 H2 H3 h2 h3 h4 HDH
      obtain ⟨⟨p0, p1, p2, p3⟩, _⟩ := bF.four
      obtain ⟨⟨z0, z1, z2⟩, _⟩ := bP.three
      go_wp2_with fail
      refine hHC.mono ?_
      rintro e w5 ⟨rfl, b5⟩
      clear hHC p0 p1 p2 p3 z0 z1 z2
      replace bF := bF.next b5
      replace bR := bR.next b5
      replace bP := bP.next b5
      replace hNS := hNS.below b5
      replace hNV := hNV.below b5
      replace hB := hB.trans (b5.mono hB.size)
      obtain ⟨⟨p0, p1, p2, p3⟩, _⟩ := bF.four
      obtain ⟨⟨z0, z1, z2⟩, _⟩ := bP.three
      by_cases hhe : he = 0
      · subst hhe
        have hq := G3.out rfl
        have hC := HON.out hi false sl _ _ hNV (G4.out rfl) hNS
        rw [← hq] at hC
        clear hq G2 G3 G4
        go_wp2_with fail
        refine hC.mono ?_
        rintro e wz ⟨rfl, bz⟩
        clear hC p0 p1 p2 p3 z0 z1 z2
        have bRz := bR.next bz
        have hBz := hB.trans (bz.mono hB.size)
        obtain ⟨⟨r0, r1, r2⟩, e0, e1, e2⟩ := bRz.three
        obtain ⟨W', hW', hb3, hg3⟩ := bRz.put3 (.int .i64 qa) (.string ⟨qb.toArray⟩) (.int .i64 qc)
        have hbl := below_grown hBz hg3 (Nat.le_refl _) (by omega)
        go_wp2
        obtain ⟨⟨y0, y1, y2⟩, _⟩ := hb3.three
        refine bodyPost_ret (v := .tuple #[.agg (spC ⟨qa, qb, qc⟩), .int .i64 qe]) (by simp [results, Tryz.f77, go_sem, y0, y1, y2]) rfl ?_
        exact ⟨rfl, hbl⟩
      · have HN := Lib.hid (G2.out hhe)
        obtain ⟨⟨r0, r1, r2⟩, e0, e1, e2⟩ := bR.three
        obtain ⟨W', hW', hb3, hg3⟩ := bR.put3 (.int .i64 0) (.string ⟨#[]⟩) (.int .i64 0)
        have hbl := below_grown hB hg3 (Nat.le_refl _) (by omega)
        clear G2 G3 G4
        go_wp2
        obtain ⟨⟨y0, y1, y2⟩, _⟩ := hb3.three
        refine bodyPost_ret (v := .tuple #[.agg #[.int .i64 0, .string ⟨#[]⟩, .int .i64 0], .int .i64 he]) (by simp [results, Tryz.f77, go_sem, y0, y1, y2]) rfl ?_
        exact ⟨by rw [show (⟨qa, qb, qc⟩ : Sp) = zeroS from (Prod.mk.inj HN.out).1, show qe = he from (Prod.mk.inj HN.out).2], hbl⟩
    · have hq := H1.out rfl
      have hC := HON.out 1 true sl _ _ hNV hDR hNS
      rw [show (⟨0, [], 1⟩ : Sp) = rootS from rfl, ← hq] at hC
      clear hq H1 H2 H3 HHO HDH
      obtain ⟨⟨p0, p1, p2, p3⟩, _⟩ := bF.four
      obtain ⟨⟨z0, z1, z2⟩, _⟩ := bP.three
      go_wp2_with fail
      refine hC.mono ?_
      rintro e wz ⟨rfl, bz⟩
      clear hC p0 p1 p2 p3 z0 z1 z2
      have bRz := bR.next bz
      have hBz := hB.trans (bz.mono hB.size)
      obtain ⟨⟨r0, r1, r2⟩, e0, e1, e2⟩ := bRz.three
      obtain ⟨W', hW', hb3, hg3⟩ := bRz.put3 (.int .i64 qa) (.string ⟨qb.toArray⟩) (.int .i64 qc)
      have hbl := below_grown hBz hg3 (Nat.le_refl _) (by omega)
      go_wp2
      obtain ⟨⟨y0, y1, y2⟩, _⟩ := hb3.three
      refine bodyPost_ret (v := .tuple #[.agg (spC ⟨qa, qb, qc⟩), .int .i64 qe]) (by simp [results, Tryz.f77, go_sem, y0, y1, y2]) rfl ?_
      exact ⟨rfl, hbl⟩
  · rw [hl] at hLg
    have HN := Lib.hid (seek_long (l := l) (base := base) (fo := fo) h0 hl)
    clear h0
    go_enter Tryz.func77, Tryz.ntmps77
    go_wp2_with fail
    refine hLg.mono ?_
    rintro e w1 ⟨rfl, b1⟩
    have bR2 := bR.next b1
    have hB2 := hB.trans (b1.mono hB.size)
    obtain ⟨⟨r0, r1, r2⟩, e0, e1, e2⟩ := bR2.three
    obtain ⟨W', hW', hb3, hg3⟩ := bR2.put3 (.int .i64 0) (.string ⟨#[]⟩) (.int .i64 0)
    have hbl := below_grown hB2 hg3 (Nat.le_refl _) (by omega)
    go_wp2
    obtain ⟨⟨y0, y1, y2⟩, _⟩ := hb3.three
    refine bodyPost_ret (v := .tuple #[.agg #[.int .i64 0, .string ⟨#[]⟩, .int .i64 0], .int .i64 7]) (by simp [results, Tryz.f77, go_sem, y0, y1, y2]) rfl ?_
    exact ⟨by rw [HN.out], hbl⟩
end Go.Proofs.YtkdmfeikikmiiaaGreat
