/- Walks: the document's way on, its Seek and Dir. -/
import Derived.Test.YtkdmfeikikmiiaaGreatQWalkD10
set_option linter.unusedVariables false
set_option linter.unusedSimpArgs false
namespace Go.Proofs.YtkdmfeikikmiiaaGreat
open Go.RowKit
theorem refOn_any (mi mb nx : Int) (l : List Nd) (a : Option Addr) (ca : Nat) (fo : Bool) (hda : ∀ i, (getN l i).data.length ≤ 5000) : ∀ (g : Nat) (todo : List (List UInt8)), todo.length + g * 5001 ≤ 500000 → OnC mi mb nx l (.slice a l.length ca) fo g todo := by
  intro g
  induction g with
  | zero =>
    intro todo
    induction todo with
    | nil => intro _; exact refOn_nil mi mb nx l _ fo 0
    | cons n r ih =>
      intro ht
      rw [List.length_cons] at ht
      exact refOn_cons mi mb nx l a ca fo 0 n r hda ht (ih (by omega)) (fun g' t' h => by omega)
  | succ g IH =>
    intro todo
    induction todo with
    | nil => intro _; exact refOn_nil mi mb nx l _ fo _
    | cons n r ih =>
      intro ht
      rw [List.length_cons] at ht
      exact refOn_cons mi mb nx l a ca fo (g + 1) n r hda ht (ih (by omega)) (fun g' t' h h2 => by cases h; exact IH t' h2)
theorem seek_empty (l : List Nd) (base : List UInt8) (fo : Bool) : seekP l base [] fo = (zeroS, 1) := by unfold seekP; rw [if_pos rfl]
theorem seek_long {l : List Nd} {base p : List UInt8} {fo : Bool} (h0 : p ≠ []) (h : longB p = true) : seekP l base p fo = (zeroS, 7) := by unfold seekP; rw [if_neg h0, if_pos h]
theorem seek_abs {l : List Nd} {base p : List UInt8} {fo : Bool} (h0 : p ≠ []) (h : longB p = false) (h1 : absB p = true) : seekP l base p fo = onN l fo 40 rootS (namesB p) (slashB p) := by
  unfold seekP; rw [if_neg h0, if_neg (by rw [h]; simp), if_pos h1]
theorem seek_bad {l : List Nd} {base p : List UInt8} {fo : Bool} (h0 : p ≠ []) (h : longB p = false) (h1 : absB p = false) (h2 : (homeP l base).2 ≠ 0) : seekP l base p fo = (zeroS, (homeP l base).2) := by
  unfold seekP; rw [if_neg h0, if_neg (by rw [h]; simp), if_neg (by rw [h1]; simp), if_pos h2]
theorem seek_from {l : List Nd} {base p : List UInt8} {fo : Bool} (h0 : p ≠ []) (h : longB p = false) (h1 : absB p = false) (h2 : (homeP l base).2 = 0) : seekP l base p fo = onN l fo 40 ⟨0, [], (homeP l base).1⟩ (namesB p) (slashB p) := by
  unfold seekP; rw [if_neg h0, if_neg (by rw [h]; simp), if_neg (by rw [h1]; simp), if_neg (by simp [h2])]
set_option maxHeartbeats 8000000 in
set_option maxRecDepth 100000 in
theorem refSeek_any (mi mb nx : Int) (l : List Nd) (base p : List UInt8) (fo : Bool) (v : Value) (w : World) (hv : Nds w v l) (hda : ∀ i, (getN l i).data.length ≤ 5000) (hb : base.length ≤ 100000) (hp : p.length ≤ 100000) :
    Calls Tryz.prog 56 #[.agg (fsC mi mb nx v), .string ⟨base.toArray⟩, .string ⟨p.toArray⟩, .bool fo] w fun e w' => e = .returned (.tuple #[.agg (spC (seekP l base p fo).1), .int .i64 (seekP l base p fo).2]) ∧ Below w.heap.size w w' := by
  obtain ⟨a, ca, rfl⟩ := nds_slice hv
  have bF := (Blk.new w 28 (fsC mi mb nx (.slice a l.length ca))).alloc (.cells (spC zeroS) 81)
  have bR := Blk.new (w.alloc (.cells (fsC mi mb nx (.slice a l.length ca)) 28)) 81 (spC zeroS)
  have hB := ((Below.refl w.heap.size w).alloc (Nat.le_refl _) (.cells (fsC mi mb nx (.slice a l.length ca)) 28)).alloc (by simp) (.cells (spC zeroS) 81)
  simp only [World.size_alloc] at bR
  have HV := Lib.hid hv
  clear hv
  by_cases h0 : p = []
  · subst h0
    have HN := Lib.hid (seek_empty l base fo)
    obtain ⟨⟨r0, r1, r2⟩, _⟩ := bR.three
    go_enter Tryz.func56, Tryz.ntmps56
    go_wp2
    refine bodyPost_ret (v := .tuple #[.agg #[.int .i64 0, .string ⟨#[]⟩, .int .i64 0], .int .i64 1]) (by simp [results, Tryz.f56, go_sem, r0, r1, r2]) rfl ?_
    exact ⟨by rw [HN.out], hB⟩
  have h0b : (p == []) = false := by simpa using h0
  have hLg := refLong_any p ((w.alloc (.cells (fsC mi mb nx (.slice a l.length ca)) 28)).alloc (.cells (spC zeroS) 81)) (by omega)
  cases hl : longB p
  · rw [hl] at hLg
    have H1 := Lib.hid (seek_abs (l := l) (base := base) (fo := fo) h0 hl)
    have H2 := Lib.hid (seek_bad (l := l) (base := base) (fo := fo) h0 hl)
    have H3 := Lib.hid (seek_from (l := l) (base := base) (fo := fo) h0 hl)
    have hct := namesB_count p
    have hON := fun s => refOn_any mi mb nx l a ca fo hda 40 (namesB p) (by omega) s (slashB p) 0
    have HHO := Lib.hid (fun w' (h : Nds w' (.slice a l.length ca) l) => refHome_any mi mb nx l base _ w' h hb)
    generalize seekP l base p fo = Q at *
    obtain ⟨⟨qa, qb, qc⟩, qe⟩ := Q
    dsimp only at ⊢
    clear h0
    go_enter Tryz.func56, Tryz.ntmps56
    go_wp2_with fail
    refine hLg.mono ?_
    rintro e w1 ⟨rfl, b1⟩
    clear hLg
    replace bF := bF.next b1
    replace bR := bR.next b1
    replace hB := hB.trans (b1.mono hB.size)
    go_wp2_with fail
    refine (refReadC_any p _ (by omega)).mono ?_
    rintro e w2 ⟨vn, rfl, hNS, b2⟩
    obtain ⟨an, nn, cn, rfl, _⟩ := id hNS.2
    have b3 := alloc_below w2 (.cells (pathR (absB p) (.slice an nn cn) (slashB p)) 86)
    have b4 := b2.trans (b3.mono b2.size)
    have bP := Blk.new w2 86 (pathR (absB p) (.slice an nn cn) (slashB p))
    replace hNS := hNS.below b3
    replace bF := bF.next b4
    replace bR := bR.next b4
    replace hB := hB.trans (b4.mono hB.size)
    clear b1 b2 b3 b4
    obtain rfl := (strs_src hNS).1
    generalize namesB p = ns at *
    generalize absB p = ab at *
    generalize slashB p = sl at *
    have hNV := HV.out.below hB
    cases ab
    · have hHC := HHO.out _ hNV
      have h2 := H2.out rfl
      have h3 := H3.out rfl
      generalize homeP l base = h at *
      obtain ⟨hi, he⟩ := h
      dsimp only at hHC h2 h3
      have G2 := Lib.hid h2
      have G3 := Lib.hid h3
      clear H1 H2 H3 h2 h3
      obtain ⟨⟨p0, p1, p2, p3⟩, _⟩ := bF.four
      have z0 := (bP.cell 0).trans rfl
      have z1 := (bP.cell 1).trans rfl
      have z2 := (bP.cell 2).trans rfl
      simp only [pathR] at z0 z1 z2
      go_wp2_with fail
      refine hHC.mono ?_
      rintro e w5 ⟨rfl, b5⟩
      clear hHC p0 p1 p2 p3 z0 z1 z2
      replace bF := bF.next b5
      replace bR := bR.next b5
      replace bP := bP.next b5
      replace hNS := hNS.below b5
      replace hNV := hNV.below b5
      replace hB := hB.trans (b5.mono hB.size)
      obtain ⟨⟨p0, p1, p2, p3⟩, _⟩ := bF.four
      have z0 := (bP.cell 0).trans rfl
      have z1 := (bP.cell 1).trans rfl
      have z2 := (bP.cell 2).trans rfl
      simp only [pathR] at z0 z1 z2
      by_cases hhe : he = 0
      · subst hhe
        have hq := G3.out rfl
        have hC := hON ⟨0, [], hi⟩ _ _ rfl hNV hNS
        rw [← hq] at hC
        clear hq G2 G3
        go_wp2_with fail
        refine hC.mono ?_
        rintro e wz ⟨rfl, bz⟩
        clear hC p0 p1 p2 p3 z0 z1 z2
        have bRz := bR.next bz
        have hBz := hB.trans (bz.mono hB.size)
        obtain ⟨⟨r0, r1, r2⟩, e0, e1, e2⟩ := bRz.three
        obtain ⟨W', hW', hb3, hg3⟩ := bRz.put3 (.int .i64 qa) (.string ⟨qb.toArray⟩) (.int .i64 qc)
        have hbl := below_grown hBz hg3 (Nat.le_refl _) (by omega)
        go_wp2
        obtain ⟨⟨y0, y1, y2⟩, _⟩ := hb3.three
        refine bodyPost_ret (v := .tuple #[.agg (spC ⟨qa, qb, qc⟩), .int .i64 qe]) (by simp [results, Tryz.f56, go_sem, y0, y1, y2]) rfl ?_
        exact ⟨rfl, hbl⟩
      · have HN := Lib.hid (G2.out hhe)
        obtain ⟨⟨r0, r1, r2⟩, e0, e1, e2⟩ := bR.three
        obtain ⟨W', hW', hb3, hg3⟩ := bR.put3 (.int .i64 0) (.string ⟨#[]⟩) (.int .i64 0)
        have hbl := below_grown hB hg3 (Nat.le_refl _) (by omega)
        clear G2 G3
        go_wp2
        obtain ⟨⟨y0, y1, y2⟩, _⟩ := hb3.three
        refine bodyPost_ret (v := .tuple #[.agg #[.int .i64 0, .string ⟨#[]⟩, .int .i64 0], .int .i64 he]) (by simp [results, Tryz.f56, go_sem, y0, y1, y2]) rfl ?_
        exact ⟨by rw [show (⟨qa, qb, qc⟩ : Sp) = zeroS from (Prod.mk.inj HN.out).1, show qe = he from (Prod.mk.inj HN.out).2], hbl⟩
    · have hq := H1.out rfl
      have hC := hON rootS _ _ rfl hNV hNS
      rw [← hq] at hC
      clear hq H1 H2 H3 HHO
      obtain ⟨⟨p0, p1, p2, p3⟩, _⟩ := bF.four
      have z0 := (bP.cell 0).trans rfl
      have z1 := (bP.cell 1).trans rfl
      have z2 := (bP.cell 2).trans rfl
      simp only [pathR] at z0 z1 z2
      go_wp2_with fail
      refine hC.mono ?_
      rintro e wz ⟨rfl, bz⟩
      clear hC p0 p1 p2 p3 z0 z1 z2
      have bRz := bR.next bz
      have hBz := hB.trans (bz.mono hB.size)
      obtain ⟨⟨r0, r1, r2⟩, e0, e1, e2⟩ := bRz.three
      obtain ⟨W', hW', hb3, hg3⟩ := bRz.put3 (.int .i64 qa) (.string ⟨qb.toArray⟩) (.int .i64 qc)
      have hbl := below_grown hBz hg3 (Nat.le_refl _) (by omega)
      go_wp2
      obtain ⟨⟨y0, y1, y2⟩, _⟩ := hb3.three
      refine bodyPost_ret (v := .tuple #[.agg (spC ⟨qa, qb, qc⟩), .int .i64 qe]) (by simp [results, Tryz.f56, go_sem, y0, y1, y2]) rfl ?_
      exact ⟨rfl, hbl⟩
  · rw [hl] at hLg
    have HN := Lib.hid (seek_long (l := l) (base := base) (fo := fo) h0 hl)
    clear h0
    go_enter Tryz.func56, Tryz.ntmps56
    go_wp2_with fail
    refine hLg.mono ?_
    rintro e w1 ⟨rfl, b1⟩
    have bR2 := bR.next b1
    have hB2 := hB.trans (b1.mono hB.size)
    obtain ⟨⟨r0, r1, r2⟩, e0, e1, e2⟩ := bR2.three
    obtain ⟨W', hW', hb3, hg3⟩ := bR2.put3 (.int .i64 0) (.string ⟨#[]⟩) (.int .i64 0)
    have hbl := below_grown hB2 hg3 (Nat.le_refl _) (by omega)
    go_wp2
    obtain ⟨⟨y0, y1, y2⟩, _⟩ := hb3.three
    refine bodyPost_ret (v := .tuple #[.agg #[.int .i64 0, .string ⟨#[]⟩, .int .i64 0], .int .i64 7]) (by simp [results, Tryz.f56, go_sem, y0, y1, y2]) rfl ?_
    exact ⟨by rw [HN.out], hbl⟩
end Go.Proofs.YtkdmfeikikmiiaaGreat
