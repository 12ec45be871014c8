/- Walks: the program's Stat, Read, Readlink, Set and Write. -/
import Derived.Test.YtkdmfeikikmiiaaGreatVMWalkD11
import Derived.Test.YtkdmfeikikmiiaaGreatVMSure14
import Derived.Test.YtkdmfeikikmiiaaGreatVWalkP10
import Derived.Test.YtkdmfeikikmiiaaGreatVWalkE05
import Derived.Test.YtkdmfeikikmiiaaGreatVMWalkB03
set_option linter.unusedVariables false
set_option linter.unusedSimpArgs false
namespace Go.Proofs.YtkdmfeikikmiiaaGreat
open Go.RowKit
/-- The file to which a path leads, as the program asks for it. -/
def fileF (l : List Nd) (base p : List UInt8) : Nd × Int :=
  if (statF l base p true).1.kind = 1 then ((statF l base p true).1, 0)
  else if (statF l base p true).1.kind = 2 then (zeroN, 4)
  else (zeroN, (statF l base p true).2)
theorem stat_bad {l : List Nd} {base p : List UInt8} {fo : Bool} (h : (statF l base p fo).2 ≠ 0) : (statF l base p fo).1 = zeroN := by
  unfold statF at h ⊢
  split
  · rfl
  split
  · rfl
  · rename_i c1 c2
    rw [if_neg c1, if_neg c2] at h
    exact absurd rfl h
theorem stat_good {l : List Nd} {base p : List UInt8} {fo : Bool} (h : (statF l base p fo).2 = 0) : (seekP l base p fo).2 = 0 ∧ hasN l (seekP l base p fo).1.ino = true ∧ (statF l base p fo).1 = getN l (seekP l base p fo).1.ino := by
  unfold statF at h ⊢
  split at h
  · rename_i c1; exact absurd h c1
  rename_i c1
  split at h
  · cases h
  rename_i c2
  rw [if_neg c1, if_neg c2]
  exact ⟨by simpa using c1, by simpa using c2, rfl⟩
theorem file_read {mi mb nx : Int} {l : List Nd} (h : OkS mi mb nx l) (base p : List UInt8) : readF l base p = ((fileF l base p).1.data, (fileF l base p).2) := by
  by_cases h0 : (statF l base p true).2 = 0
  · obtain ⟨e1, e2, e3⟩ := stat_good h0
    have hgood := (seek_good h base p).1 e1
    have hk := kind_some (sound_of h.check) e2
    rw [← e3] at hk
    have hk3 : (statF l base p true).1.kind ≠ 3 := by
      rw [e3]
      by_cases hn : (seekP l base p true).1.name = []
      · have := (dir_parts (hgood.bare hn).1).2
        omega
      · exact (hgood.entry hn).2.2.2
    unfold readF fileF
    rw [if_neg (by simp [h0])]
    rcases hk with h1 | h1 | h1
    · rw [if_neg (by omega), if_pos h1]
    · rw [if_pos h1, if_neg (by omega), if_pos h1]; rfl
    · exact absurd h1 hk3
  · unfold readF fileF
    rw [if_pos h0, if_neg (by rw [stat_bad h0]; decide), if_neg (by rw [stat_bad h0]; decide)]
    rfl
theorem file_write {mi mb nx : Int} {l : List Nd} (h : OkS mi mb nx l) (base p d : List UInt8) : writeF mi mb l base p d = if (fileF l base p).2 ≠ 0 then (l, (fileF l base p).2) else setF mi mb l (fileF l base p).1.ino d := by
  unfold writeF
  rw [file_read h]
  dsimp only
  by_cases h0 : (fileF l base p).2 = 0
  · rw [if_neg (by simp [h0]), if_neg (by simp [h0])]
    have : (fileF l base p).1 = (statF l base p true).1 := by
      unfold fileF at h0 ⊢
      by_cases h1 : (statF l base p true).1.kind = 1
      · rw [if_pos h1]
      · rw [if_neg h1] at h0
        by_cases h2 : (statF l base p true).1.kind = 2
        · rw [if_pos h2] at h0; cases h0
        · rw [if_neg h2] at h0
          have h3 := (stat_good h0)
          have hk := kind_some (sound_of h.check) h3.2.1
          have hgood := (seek_good h base p).1 h3.1
          rw [← h3.2.2] at hk
          rcases hk with hk | hk | hk
          · exact absurd hk h1
          · exact absurd hk h2
          · exfalso
            by_cases hn : (seekP l base p true).1.name = []
            · have := (dir_parts (hgood.bare hn).1).2
              rw [h3.2.2] at hk
              omega
            · rw [h3.2.2] at hk
              exact (hgood.entry hn).2.2.2 hk
    rw [this]
  · rw [if_pos h0, if_pos h0]
theorem file_is {mi mb nx : Int} {l : List Nd} (h : OkS mi mb nx l) {base p : List UInt8} (h0 : (fileF l base p).2 = 0) : hasN l (fileF l base p).1.ino = true ∧ (getN l (fileF l base p).1.ino).kind = 1 := by
  obtain ⟨i, d, n, h1, h2, h3, h4, h5⟩ := read_ok h (base := base) (p := p) (by rw [file_read h]; exact h0)
  have : fileF l base p = (getN l i, 0) := by
    unfold fileF
    rw [h4]
    dsimp only
    rw [if_pos h3]
  rw [this]
  dsimp only
  rw [(get_mem h2).2]
  exact ⟨h2, h3⟩
theorem file_slice {w : World} {v : Value} {l : List Nd} (h : Nds w v l) (base p : List UInt8) : ∃ a n c, (fileF l base p).1.ev = .slice a n c := by
  unfold fileF
  split
  · exact stat_slice h base p true
  split
  · exact ⟨_, _, _, rfl⟩
  · exact ⟨_, _, _, rfl⟩
set_option maxHeartbeats 8000000 in
set_option maxRecDepth 100000 in
theorem Stat_any (mi mb nx : Int) (l : List Nd) (base p : List UInt8) (fo : Bool) (v : Value) (w : World) (hv : Nds w v l) (hok : OkS mi mb nx l) (hb : base.length ≤ 20000) (hp : p.length ≤ 20000) :
    Calls Tryz.prog 98 #[.agg (fsC mi mb nx v), .string ⟨base.toArray⟩, .string ⟨p.toArray⟩, .bool fo] w fun e w' => e = .returned (.tuple #[.agg (ndC (statF l base p fo).1), .int .i64 (statF l base p fo).2]) ∧ Below w.heap.size w w' := by
  obtain ⟨a, ca, rfl⟩ := nds_slice hv
  have bF := (Blk.new w 28 (fsC mi mb nx (.slice a l.length ca))).alloc (.cells #[.int .i64 0, .int .i64 0, .int .i64 0, .string ⟨#[]⟩, .int .i64 0, .slice none 0 0] 49)
  have bR : Blk _ _ 49 (ndC zeroN) := Blk.new (w.alloc (.cells (fsC mi mb nx (.slice a l.length ca)) 28)) 49 (ndC zeroN)
  have hB := ((Below.refl w.heap.size w).alloc (Nat.le_refl _) (.cells (fsC mi mb nx (.slice a l.length ca)) 28)).alloc (by simp) (.cells #[.int .i64 0, .int .i64 0, .int .i64 0, .string ⟨#[]⟩, .int .i64 0, .slice none 0 0] 49)
  simp only [World.size_alloc] at bR
  have HV := Lib.hid hv
  have hSk := Seek_any mi mb nx l base p fo _ _ (hv.below hB) hok hb hp
  have hF : statF l base p fo = statF l base p fo := rfl
  conv at hF => rhs; unfold statF
  have hGX := fun w' (h : Nds w' (.slice a l.length ca) l) => GetN_any mi mb nx (seekP l base p fo).1.ino l _ w' h hok.calm.rise (by have := hok.calm.len; omega) (calm_data hok.calm)
  have hxs := get_slice hv (seekP l base p fo).1.ino
  generalize seekP l base p fo = Q at *
  obtain ⟨⟨qa, qb, qc⟩, qe⟩ := Q
  dsimp only at hF hSk hGX hxs
  have HF := Lib.hid hF
  clear hF hv
  obtain ⟨⟨p0, p1, p2, p3⟩, _⟩ := bF.four
  go_enter Tryz.func98, Tryz.ntmps98
  go_wp2_with fail
  refine hSk.mono ?_
  rintro e w1 ⟨rfl, b1⟩
  clear hSk p0 p1 p2 p3
  have b2 := b1.trans ((alloc_below w1 (.cells (spC ⟨qa, qb, qc⟩) 81)).mono b1.size)
  have bS := Blk.new w1 81 (spC ⟨qa, qb, qc⟩)
  replace bF := bF.next b2
  replace bR := bR.next b2
  replace hB := hB.trans (b2.mono hB.size)
  clear b1 b2
  obtain ⟨⟨p0, p1, p2, p3⟩, _⟩ := bF.four
  obtain ⟨⟨s0, s1, s2⟩, _⟩ := bS.three
  dsimp only at s0 s1 s2
  by_cases he : qe = 0
  case neg =>
    have HN : Hid (statF l base p fo = (zeroN, qe)) := by have := HF.out; rw [if_pos he] at this; exact this
    clear HF hGX hxs
    obtain ⟨⟨r0, r1, r2, r3, r4, r5⟩, e0, e1, e2, e3, e4, e5⟩ := bR.six
    obtain ⟨W', hW', hb4, hg4⟩ := bR.put6 zeroN
    simp only [zeroN] at hW' r0 r1 r2 r3 r4 r5
    have hbl := below_grown hB hg4 (Nat.le_refl _) (by omega)
    go_wp2
    obtain ⟨⟨y0, y1, y2, y3, y4, y5⟩, _⟩ := hb4.six
    simp only [zeroN] at y0 y1 y2 y3 y4 y5
    refine bodyPost_ret (v := .tuple #[.agg (ndC zeroN), .int .i64 qe]) (by simp [results, Tryz.f98, go_sem, y0, y1, y2, y3, y4, y5, zeroN]) rfl ?_
    exact ⟨by rw [HN.out], hbl⟩
  subst he
  have hG := hGX _ (HV.out.below hB)
  have h2 := HF.out
  rw [if_neg (by simp)] at h2
  replace HF := Lib.hid h2
  clear h2
  clear hGX
  generalize getN l qc = X at *
  obtain ⟨xi, xk, xl, xd, xp, xe, xn⟩ := X
  dsimp only at hxs
  obtain ⟨ax, nxx, cx, rfl⟩ := hxs
  cases hh : hasN l qc
  case false =>
    have HN : Hid (statF l base p fo = (zeroN, 1)) := by have := HF.out; rw [if_pos hh] at this; exact this
    rw [hh] at hG
    clear HF
    go_wp2_with fail
    refine hG.mono ?_
    rintro e w2 ⟨rfl, b1⟩
    clear hG p0 p1 p2 p3 s0 s1 s2
    have b2 := b1.trans ((alloc_below w2 (.cells (ndC ⟨xi, xk, xl, xd, xp, .slice ax nxx cx, xn⟩) 49)).mono b1.size)
    replace bR := bR.next b2
    replace hB := hB.trans (b2.mono hB.size)
    clear b1 b2
    obtain ⟨⟨r0, r1, r2, r3, r4, r5⟩, e0, e1, e2, e3, e4, e5⟩ := bR.six
    obtain ⟨W', hW', hb4, hg4⟩ := bR.put6 zeroN
    simp only [zeroN] at hW' r0 r1 r2 r3 r4 r5
    have hbl := below_grown hB hg4 (Nat.le_refl _) (by omega)
    go_wp2
    obtain ⟨⟨y0, y1, y2, y3, y4, y5⟩, _⟩ := hb4.six
    simp only [zeroN] at y0 y1 y2 y3 y4 y5
    refine bodyPost_ret (v := .tuple #[.agg (ndC zeroN), .int .i64 1]) (by simp [results, Tryz.f98, go_sem, y0, y1, y2, y3, y4, y5, zeroN]) rfl ?_
    exact ⟨by rw [HN.out], hbl⟩
  have HN : Hid (statF l base p fo = (⟨xi, xk, xl, xd, xp, .slice ax nxx cx, xn⟩, 0)) := by have := HF.out; rw [if_neg (by rw [hh]; simp)] at this; exact this
  rw [hh] at hG
  clear HF
  go_wp2_with fail
  refine hG.mono ?_
  rintro e w2 ⟨rfl, b1⟩
  clear hG p0 p1 p2 p3 s0 s1 s2
  have b2 := b1.trans ((alloc_below w2 (.cells (ndC ⟨xi, xk, xl, xd, xp, .slice ax nxx cx, xn⟩) 49)).mono b1.size)
  have bX := Blk.new w2 49 (ndC ⟨xi, xk, xl, xd, xp, .slice ax nxx cx, xn⟩)
  replace bR := bR.next b2
  replace hB := hB.trans (b2.mono hB.size)
  clear b1 b2
  obtain ⟨⟨x0, x1, x2, x3, x4, x5⟩, _⟩ := bX.six
  dsimp only at x0 x1 x2 x3 x4 x5
  obtain ⟨⟨r0, r1, r2, r3, r4, r5⟩, e0, e1, e2, e3, e4, e5⟩ := bR.six
  obtain ⟨W', hW', hb4, hg4⟩ := bR.put6 ⟨xi, xk, xl, xd, xp, .slice ax nxx cx, xn⟩
  simp only [zeroN] at r0 r1 r2 r3 r4 r5
  dsimp only at hW'
  have hbl := below_grown hB hg4 (Nat.le_refl _) (by omega)
  go_wp2
  obtain ⟨⟨y0, y1, y2, y3, y4, y5⟩, _⟩ := hb4.six
  dsimp only at y0 y1 y2 y3 y4 y5
  refine bodyPost_ret (v := .tuple #[.agg (ndC ⟨xi, xk, xl, xd, xp, .slice ax nxx cx, xn⟩), .int .i64 0]) (by simp [results, Tryz.f98, go_sem, y0, y1, y2, y3, y4, y5]) rfl ?_
  exact ⟨by rw [HN.out], hbl⟩
set_option maxHeartbeats 8000000 in
set_option maxRecDepth 100000 in
theorem file_any (mi mb nx : Int) (l : List Nd) (base p : List UInt8) (v : Value) (w : World) (hv : Nds w v l) (hok : OkS mi mb nx l) (hb : base.length ≤ 20000) (hp : p.length ≤ 20000) :
    Calls Tryz.prog 71 #[.agg (fsC mi mb nx v), .string ⟨base.toArray⟩, .string ⟨p.toArray⟩] w fun e w' => e = .returned (.tuple #[.agg (ndC (fileF l base p).1), .int .i64 (fileF l base p).2]) ∧ Below w.heap.size w w' := by
  obtain ⟨a, ca, rfl⟩ := nds_slice hv
  have bF := (Blk.new w 28 (fsC mi mb nx (.slice a l.length ca))).alloc (.cells #[.int .i64 0, .int .i64 0, .int .i64 0, .string ⟨#[]⟩, .int .i64 0, .slice none 0 0] 49)
  have bR : Blk _ _ 49 (ndC zeroN) := Blk.new (w.alloc (.cells (fsC mi mb nx (.slice a l.length ca)) 28)) 49 (ndC zeroN)
  have hB := ((Below.refl w.heap.size w).alloc (Nat.le_refl _) (.cells (fsC mi mb nx (.slice a l.length ca)) 28)).alloc (by simp) (.cells #[.int .i64 0, .int .i64 0, .int .i64 0, .string ⟨#[]⟩, .int .i64 0, .slice none 0 0] 49)
  simp only [World.size_alloc] at bR
  have hG := Stat_any mi mb nx l base p true _ _ (hv.below hB) hok hb hp
  have hF : fileF l base p = fileF l base p := rfl
  conv at hF => rhs; unfold fileF
  obtain ⟨ag, ng, cg, hgs⟩ := stat_slice hv base p true
  generalize statF l base p true = G at *
  obtain ⟨⟨gi, gk, gl, gd, gp, ge, gn⟩, er⟩ := G
  dsimp only at hG hF hgs
  subst hgs
  have HF := Lib.hid hF
  clear hF hv
  obtain ⟨⟨p0, p1, p2, p3⟩, _⟩ := bF.four
  go_enter Tryz.func71, Tryz.ntmps71
  go_wp2_with fail
  refine hG.mono ?_
  rintro e w1 ⟨rfl, b1⟩
  clear hG p0 p1 p2 p3
  have b2 := b1.trans ((alloc_below w1 (.cells (ndC ⟨gi, gk, gl, gd, gp, .slice ag ng cg, gn⟩) 49)).mono b1.size)
  have bX := Blk.new w1 49 (ndC ⟨gi, gk, gl, gd, gp, .slice ag ng cg, gn⟩)
  replace bR := bR.next b2
  replace hB := hB.trans (b2.mono hB.size)
  clear b1 b2 bF
  obtain ⟨⟨x0, x1, x2, x3, x4, x5⟩, _⟩ := bX.six
  dsimp only at x0 x1 x2 x3 x4 x5
  by_cases hk : gk = 1
  case pos =>
    have HN : Hid (fileF l base p = (⟨gi, gk, gl, gd, gp, .slice ag ng cg, gn⟩, 0)) := by have := HF.out; rw [if_pos hk] at this; exact this
    clear HF
    subst hk
    obtain ⟨⟨r0, r1, r2, r3, r4, r5⟩, e0, e1, e2, e3, e4, e5⟩ := bR.six
    obtain ⟨W', hW', hb4, hg4⟩ := bR.put6 ⟨gi, 1, gl, gd, gp, .slice ag ng cg, gn⟩
    simp only [zeroN] at r0 r1 r2 r3 r4 r5
    dsimp only at hW'
    have hbl := below_grown hB hg4 (Nat.le_refl _) (by omega)
    go_wp2
    obtain ⟨⟨y0, y1, y2, y3, y4, y5⟩, _⟩ := hb4.six
    dsimp only at y0 y1 y2 y3 y4 y5
    refine bodyPost_ret (v := .tuple #[.agg (ndC ⟨gi, 1, gl, gd, gp, .slice ag ng cg, gn⟩), .int .i64 0]) (by simp [results, Tryz.f71, go_sem, y0, y1, y2, y3, y4, y5]) rfl ?_
    exact ⟨by rw [HN.out], hbl⟩
  by_cases hk2 : gk = 2
  case pos =>
    have HN : Hid (fileF l base p = (zeroN, 4)) := by have := HF.out; rw [if_neg hk, if_pos hk2] at this; exact this
    clear HF hk
    subst hk2
    obtain ⟨⟨r0, r1, r2, r3, r4, r5⟩, e0, e1, e2, e3, e4, e5⟩ := bR.six
    obtain ⟨W', hW', hb4, hg4⟩ := bR.put6 zeroN
    simp only [zeroN] at hW' r0 r1 r2 r3 r4 r5
    have hbl := below_grown hB hg4 (Nat.le_refl _) (by omega)
    go_wp2
    obtain ⟨⟨y0, y1, y2, y3, y4, y5⟩, _⟩ := hb4.six
    simp only [zeroN] at y0 y1 y2 y3 y4 y5
    refine bodyPost_ret (v := .tuple #[.agg (ndC zeroN), .int .i64 4]) (by simp [results, Tryz.f71, go_sem, y0, y1, y2, y3, y4, y5, zeroN]) rfl ?_
    exact ⟨by rw [HN.out], hbl⟩
  have HN : Hid (fileF l base p = (zeroN, er)) := by have := HF.out; rw [if_neg hk, if_neg hk2] at this; exact this
  clear HF
  obtain ⟨⟨r0, r1, r2, r3, r4, r5⟩, e0, e1, e2, e3, e4, e5⟩ := bR.six
  obtain ⟨W', hW', hb4, hg4⟩ := bR.put6 zeroN
  simp only [zeroN] at hW' r0 r1 r2 r3 r4 r5
  have hbl := below_grown hB hg4 (Nat.le_refl _) (by omega)
  go_wp2
  obtain ⟨⟨y0, y1, y2, y3, y4, y5⟩, _⟩ := hb4.six
  simp only [zeroN] at y0 y1 y2 y3 y4 y5
  refine bodyPost_ret (v := .tuple #[.agg (ndC zeroN), .int .i64 er]) (by simp [results, Tryz.f71, go_sem, y0, y1, y2, y3, y4, y5, zeroN]) rfl ?_
  exact ⟨by rw [HN.out], hbl⟩
set_option maxHeartbeats 8000000 in
set_option maxRecDepth 100000 in
theorem Set13_any (mi mb nx i : Int) (l : List Nd) (data : List UInt8) (v : Value) (w : World) (hv : Nds w v l) (hok : OkS mi mb nx l) (hi : hasN l i = true) (hk : (getN l i).kind = 1) (hdl : data.length ≤ 20000) :
    Calls Tryz.prog 72 #[.agg (fsC mi mb nx v), .int .i64 i, .string ⟨data.toArray⟩] w fun e w' => ∃ y, e = .returned (.tuple #[.agg (fsC mi mb nx y), .int .i64 (setF mi mb l i data).2]) ∧ MadeFs w v l w' y (setF mi mb l i data).1 ∧ Below w.heap.size w w' := by
  have hr := hok.calm.rise
  have hl := hok.calm.len
  have hby : bytesN l ≤ 1099511627776 := by
    have h1 := bytesN_few (l := l) (m := 5000) (fun x hx => (hok.calm.size x hx).2.1)
    have h2 := Nat.mul_le_mul_right 5000 hl
    omega
  have hxd : (getN l i).data.length ≤ 1000000 := by have := (calm_get hok.calm i).2.2.1; omega
  have hda := calm_data hok.calm
  clear hi hk hok
  obtain ⟨a, ca, rfl⟩ := nds_slice hv
  have bF := (Blk.new w 28 (fsC mi mb nx (.slice a l.length ca))).alloc (.cells (fsC 0 0 0 (.slice none 0 0)) 28)
  have bR := Blk.new (w.alloc (.cells (fsC mi mb nx (.slice a l.length ca)) 28)) 28 (fsC 0 0 0 (.slice none 0 0))
  have hB := ((Below.refl w.heap.size w).alloc (Nat.le_refl _) (.cells (fsC mi mb nx (.slice a l.length ca)) 28)).alloc (by simp) (.cells (fsC 0 0 0 (.slice none 0 0)) 28)
  simp only [World.size_alloc] at bR
  have HV := Lib.hid hv
  have hG := GetN_any mi mb nx i l _ _ (hv.below hB) hr (by omega) hda
  have hF : setF mi mb l i data = setF mi mb l i data := rfl
  conv at hF => rhs; unfold setF dataL
  have hEX := fun W (h : EntsAll W l) => get_ents h i
  obtain ⟨ax, nxx, cx, hxs⟩ := get_slice hv i
  generalize getN l i = X at *
  generalize hasN l i = hs1 at *
  obtain ⟨xi, xk, xl, xd, xp, xe, xn⟩ := X
  dsimp only at hxs hF hEX hxd
  subst hxs
  have HF := Lib.hid hF
  have HEX := Lib.hid hEX
  clear hF hv hEX
  have hwx : IntKind.i64.wrap ((data.length : Int) - (xd.length : Int)) = (data.length : Int) - (xd.length : Int) := by rw [IntKind.wrap_i64]; omega
  obtain ⟨⟨p0, p1, p2, p3⟩, _⟩ := bF.four
  go_enter Tryz.func72, Tryz.ntmps72
  go_wp2_with fail
  refine hG.mono ?_
  rintro e w1 ⟨rfl, b1⟩
  clear hG p0 p1 p2 p3
  have b2 := b1.trans ((alloc_below w1 (.cells (ndC ⟨xi, xk, xl, xd, xp, .slice ax nxx cx, xn⟩) 49)).mono b1.size)
  have bX := Blk.new w1 49 (ndC ⟨xi, xk, xl, xd, xp, .slice ax nxx cx, xn⟩)
  have hXl : w.heap.size + 1 < w1.heap.size := (bR.next b1).lt
  replace bF := bF.next b2
  replace bR := bR.next b2
  replace hB := hB.trans (b2.mono hB.size)
  clear b1 b2
  have hFt := Fits_any mi mb nx 0 ((data.length : Int) - (xd.length : Int)) l _ _ (HV.out.below hB) (by omega) hby (by decide) (by omega)
  obtain ⟨⟨p0, p1, p2, p3⟩, _⟩ := bF.four
  obtain ⟨⟨x0, x1, x2, x3, x4, x5⟩, _⟩ := bX.six
  dsimp only at x0 x1 x2 x3 x4 x5
  go_wp2_with fail
  refine hFt.mono ?_
  rintro e w2 ⟨rfl, b1⟩
  clear hFt p0 p1 p2 p3 x0 x1 x2 x3 x4 x5
  replace bF := bF.next b1
  replace bR := bR.next b1
  replace bX := bX.next b1
  replace hB := hB.trans (b1.mono hB.size)
  clear b1
  generalize w1.heap.size = BX at *
  obtain ⟨⟨p0, p1, p2, p3⟩, _⟩ := bF.four
  cases hf : fitsB mi mb l 0 ((data.length : Int) - (xd.length : Int))
  case false =>
    have h2 := HF.out
    rw [if_pos hf] at h2
    have HN := Lib.hid h2
    clear HF h2
    obtain ⟨⟨r0, r1, r2, r3⟩, e0, e1, e2, e3⟩ := bR.four
    obtain ⟨W', hW', hb4, hg4⟩ := bR.put4 (.int .i64 mi) (.int .i64 mb) (.int .i64 nx) (.slice a l.length ca)
    have hbl := below_grown hB hg4 (Nat.le_refl _) (by omega)
    go_wp2
    obtain ⟨⟨y0, y1, y2, y3⟩, _⟩ := hb4.four
    refine bodyPost_ret (v := .tuple #[.agg (fsC mi mb nx (.slice a l.length ca)), .int .i64 8]) (by simp [results, Tryz.f72, go_sem, y0, y1, y2, y3]) rfl ?_
    exact ⟨_, by rw [HN.out], by rw [HN.out]; exact MadeFs.same _ _ _ _, hbl⟩
  have h2 := HF.out
  rw [if_neg (by rw [hf]; simp)] at h2
  have HN := Lib.hid h2
  clear HF h2
  obtain ⟨⟨x0, x1, x2, x3, x4, x5⟩, f0, f1, f2, f3, f4, f5⟩ := bX.six
  dsimp only at x0 x1 x2 x3 x4 x5
  have bX5 := bX.set 3 (.string ⟨data.toArray⟩)
  rw [nd_set3] at bX5
  have bF5 := bF.other (B2 := BX) (i := 3) (by omega) (.string ⟨data.toArray⟩)
  have bR5 := bR.other (B2 := BX) (i := 3) (by omega) (.string ⟨data.toArray⟩)
  have hB5 := hB.setCell (p := ⟨BX, 3, none⟩) (by show w.heap.size ≤ BX; omega) (.string ⟨data.toArray⟩)
  clear p0 p1 p2 p3
  generalize hw5 : World.setCell w2 ⟨BX, 3, none⟩ (.string ⟨data.toArray⟩) = w5 at *
  obtain ⟨⟨p0, p1, p2, p3⟩, _⟩ := bF5.four
  obtain ⟨⟨y0, y1, y2, y3, y4, y5⟩, _⟩ := bX5.six
  dsimp only at y0 y1 y2 y3 y4 y5
  clear bF bR bX hB
  have hSe := SetN_any mi mb nx l ⟨xi, xk, xl, data, xp, .slice ax nxx cx, xn⟩ _ _ (HV.out.below hB5) (HEX.out _ (HV.out.below hB5).all) hr (by omega) hda (Nat.le_trans hdl (by decide))
  go_wp2_with fail
  refine hSe.mono ?_
  rintro e w9 ⟨v9, rfl, hnew⟩
  obtain ⟨a9, c9, rfl⟩ := own_slice hnew.1
  have b9 := hnew.2
  have hB9 := hB5.trans (b9.mono hB5.size)
  have bR9 := bR5.next b9
  have hRl8 := bR5.lt
  have hown9 := hnew.1
  clear p0 p1 p2 p3 x0 x1 x2 x3 x4 x5 y0 y1 y2 y3 y4 y5 f0 f1 f2 f3 f4 f5
  obtain ⟨_, e0, e1, e2, e3⟩ := bR9.four
  obtain ⟨W', hW', hb4, hg4⟩ := bR9.put4 (.int .i64 mi) (.int .i64 mb) (.int .i64 nx) (.slice a9 (setN l ⟨xi, xk, xl, data, xp, .slice ax nxx cx, xn⟩).length c9)
  have hbl := below_grown hB9 hg4 (Nat.le_refl _) (by omega)
  have hNW : MadeFs w (.slice a l.length ca) l W' (.slice a9 (setN l ⟨xi, xk, xl, data, xp, .slice ax nxx cx, xn⟩).length c9) (setN l ⟨xi, xk, xl, data, xp, .slice ax nxx cx, xn⟩) := fun W hkW hvW => by
    refine own_nds (own_kept (hown9.kept hg4 (own_not hown9 hRl8)) hkW (by omega)) fun z hz => ?_
    rcases mem_setN hz with rfl | h
    · exact HEX.out W hvW.all
    · exact hvW.all z h
  clear hSe hnew bF5 bR5 bX5 hB5 b9 hB9 bR9 hown9
  go_wp2
  obtain ⟨⟨r0, r1, r2, r3⟩, _⟩ := hb4.four
  refine bodyPost_ret (v := .tuple #[.agg (fsC mi mb nx (.slice a9 (setN l ⟨xi, xk, xl, data, xp, .slice ax nxx cx, xn⟩).length c9)), .int .i64 0]) (by simp [results, Tryz.f72, go_sem, r0, r1, r2, r3]) rfl ?_
  exact ⟨_, by rw [HN.out], by rw [HN.out]; exact hNW, hbl⟩
set_option maxHeartbeats 8000000 in
set_option maxRecDepth 100000 in
theorem Write13_any (mi mb nx : Int) (l : List Nd) (base p data : List UInt8) (v : Value) (w : World) (hv : Nds w v l) (hok : OkS mi mb nx l) (hb : base.length ≤ 20000) (hp : p.length ≤ 20000) (hdl : data.length ≤ 20000) :
    Calls Tryz.prog 39 #[.agg (fsC mi mb nx v), .string ⟨base.toArray⟩, .string ⟨p.toArray⟩, .string ⟨data.toArray⟩] w fun e w' => ∃ y, e = .returned (.tuple #[.agg (fsC mi mb nx y), .int .i64 (writeF mi mb l base p data).2]) ∧ MadeFs w v l w' y (writeF mi mb l base p data).1 ∧ Below w.heap.size w w' := by
  obtain ⟨a, ca, rfl⟩ := nds_slice hv
  have bF := (Blk.new w 28 (fsC mi mb nx (.slice a l.length ca))).alloc (.cells (fsC 0 0 0 (.slice none 0 0)) 28)
  have bR := Blk.new (w.alloc (.cells (fsC mi mb nx (.slice a l.length ca)) 28)) 28 (fsC 0 0 0 (.slice none 0 0))
  have hB := ((Below.refl w.heap.size w).alloc (Nat.le_refl _) (.cells (fsC mi mb nx (.slice a l.length ca)) 28)).alloc (by simp) (.cells (fsC 0 0 0 (.slice none 0 0)) 28)
  simp only [World.size_alloc] at bR
  have HV := Lib.hid hv
  have hRd := file_any mi mb nx l base p _ _ (hv.below hB) hok hb hp
  have hF := file_write hok base p data
  have hSe := fun (h0 : (fileF l base p).2 = 0) w' (h : Nds w' (.slice a l.length ca) l) => Set13_any mi mb nx (fileF l base p).1.ino l data _ w' h hok (file_is hok h0).1 (file_is hok h0).2 hdl
  obtain ⟨ax, nxx, cx, hxs⟩ := file_slice hv base p
  generalize fileF l base p = G at *
  obtain ⟨⟨xi, xk, xl, xd, xp, xe, xn⟩, re⟩ := G
  dsimp only at hRd hxs hF hSe
  subst hxs
  have HF := Lib.hid hF
  clear hF hv
  obtain ⟨⟨p0, p1, p2, p3⟩, _⟩ := bF.four
  go_enter Tryz.func39, Tryz.ntmps39
  go_wp2_with fail
  refine hRd.mono ?_
  rintro e w1 ⟨rfl, b1⟩
  clear hRd p0 p1 p2 p3
  have b2 := b1.trans ((alloc_below w1 (.cells (ndC ⟨xi, xk, xl, xd, xp, .slice ax nxx cx, xn⟩) 49)).mono b1.size)
  have bX := Blk.new w1 49 (ndC ⟨xi, xk, xl, xd, xp, .slice ax nxx cx, xn⟩)
  replace bF := bF.next b2
  replace bR := bR.next b2
  replace hB := hB.trans (b2.mono hB.size)
  clear b1 b2
  obtain ⟨⟨p0, p1, p2, p3⟩, _⟩ := bF.four
  obtain ⟨⟨x0, x1, x2, x3, x4, x5⟩, _⟩ := bX.six
  dsimp only at x0 x1 x2 x3 x4 x5
  by_cases he : re = 0
  case neg =>
    have h2 := HF.out
    rw [if_pos he] at h2
    have HN := Lib.hid h2
    clear HF h2 hSe
    obtain ⟨⟨r0, r1, r2, r3⟩, e0, e1, e2, e3⟩ := bR.four
    obtain ⟨W', hW', hb4, hg4⟩ := bR.put4 (.int .i64 mi) (.int .i64 mb) (.int .i64 nx) (.slice a l.length ca)
    have hbl := below_grown hB hg4 (Nat.le_refl _) (by omega)
    go_wp2
    obtain ⟨⟨y0, y1, y2, y3⟩, _⟩ := hb4.four
    refine bodyPost_ret (v := .tuple #[.agg (fsC mi mb nx (.slice a l.length ca)), .int .i64 re]) (by simp [results, Tryz.f39, go_sem, y0, y1, y2, y3]) rfl ?_
    exact ⟨_, by rw [HN.out], by rw [HN.out]; exact MadeFs.same _ _ _ _, hbl⟩
  subst he
  have h2 := HF.out
  rw [if_neg (by simp)] at h2
  have HN := Lib.hid h2
  clear HF h2
  go_wp2_with fail
  refine (hSe (by trivial) _ (HV.out.below hB)).mono ?_
  rintro e w5 ⟨y, rfl, hN, b3⟩
  obtain ⟨ay, cy, rfl⟩ := nds_slice (hN.now (HV.out.below hB) b3)
  generalize setF mi mb l xi data = Z at *
  obtain ⟨Z, ze⟩ := Z
  dsimp only at hN
  have hRl := bR.lt
  have hsz := hB.size
  clear hSe p0 p1 p2 p3 x0 x1 x2 x3 x4 x5
  have bR3 := bR.next b3
  have hB3 := hB.trans (b3.mono hB.size)
  obtain ⟨⟨r0, r1, r2, r3⟩, e0, e1, e2, e3⟩ := bR3.four
  obtain ⟨W', hW', hb4, hg4⟩ := bR3.put4 (.int .i64 mi) (.int .i64 mb) (.int .i64 nx) (.slice ay Z.length cy)
  have hbl := below_grown hB3 hg4 (Nat.le_refl _) (by omega)
  have hM := hN.up (w := w) (w' := W') hsz (Kept.grown hg4 hRl)
  go_wp2
  obtain ⟨⟨y0, y1, y2, y3⟩, _⟩ := hb4.four
  refine bodyPost_ret (v := .tuple #[.agg (fsC mi mb nx (.slice ay Z.length cy)), .int .i64 ze]) (by simp [results, Tryz.f39, go_sem, y0, y1, y2, y3]) rfl ?_
  exact ⟨_, by rw [HN.out], by rw [HN.out]; exact hM, hbl⟩
end Go.Proofs.YtkdmfeikikmiiaaGreat
