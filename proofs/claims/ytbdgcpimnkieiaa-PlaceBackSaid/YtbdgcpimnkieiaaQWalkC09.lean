/- Walks: the document's Put and Take of plain paths. -/
import Derived.Test.YtbdgcpimnkieiaaQWalkB09
import Derived.Test.YtbdgcpimnkieiaaQWalkG04
import Derived.Test.YtbdgcpimnkieiaaQWalkK05
namespace Go.Proofs.Ytbdgcpimnkieiaa
open Go.RowKit

theorem refWithoutS_any (l : List Ent) (n : List UInt8) (v : Value) (w : World) (hv : Ents w v l) (hs : sortP l) (hl : l.length ≤ 1000000) :
    Calls Try.prog 36 #[v, .string ⟨n.toArray⟩] w (OwnEnts w (withoutB l n)) := by
  have := refWithout_any l n v w hv hl
  rwa [without_eq n hs] at this
theorem nd_set5 (i k ln : Int) (d : List UInt8) (p : Int) (v u : Value) (n m : List Ent) : (ndC ⟨i, k, ln, d, p, v, n⟩).setIfInBounds 5 u = ndC ⟨i, k, ln, d, p, u, m⟩ := rfl

set_option maxHeartbeats 4000000 in
theorem refPutP_any (mi mb nx : Int) (l : List Nd) (p : List UInt8) (i : Int) (v : Value) (w : World) (hv : Nds w v l) (hp : p.length ≤ 100000) (hr : riseP l) (hso : sortP (getN l (atP l p).1.dir).ents) (hl : l.length ≤ 1000) (hel : (getN l (atP l p).1.dir).ents.length ≤ 1000) :
    Calls Try.prog 15 #[.agg (fsC mi mb nx v), .string ⟨p.toArray⟩, .int .i64 i] w fun e w' => ∃ y ev, e = .returned (.agg (fsC mi mb nx y)) ∧ Nds w' y (putN l (atP l p).1 i ev) ∧ Below w.heap.size w w' := by
  obtain ⟨a, ca, rfl⟩ := nds_slice hv
  have bF := (Blk.new w 24 (fsC mi mb nx (.slice a l.length ca))).alloc (.cells (fsC 0 0 0 (.slice none 0 0)) 24)
  have bR := Blk.new (w.alloc (.cells (fsC mi mb nx (.slice a l.length ca)) 24)) 24 (fsC 0 0 0 (.slice none 0 0))
  have hB0 : Below w.heap.size w ((w.alloc (.cells (fsC mi mb nx (.slice a l.length ca)) 24)).alloc (.cells (fsC 0 0 0 (.slice none 0 0)) 24)) := ((Below.refl _ w).alloc (Nat.le_refl _) _).alloc (by simp) _
  simp only [World.size_alloc] at bR
  have hA := refAt_any mi mb nx l p _ _ (hv.below hB0) hp
  have HV := Lib.hid hv
  clear hv
  generalize atP l p = q at *
  obtain ⟨⟨sd, sn, si⟩, er⟩ := q
  dsimp only at hA hso hel ⊢
  obtain ⟨⟨p0, p1, p2, p3⟩, _⟩ := bF.four
  go_enter Try.func15, Try.ntmps15
  go_wp2_with fail
  refine hA.mono ?_
  rintro e w1 ⟨rfl, b1⟩
  clear hA p0 p1 p2 p3
  have b2 := alloc_below w1 (.cells (spC ⟨sd, sn, si⟩) 28)
  have b3 := b1.trans (b2.mono b1.size)
  have hB := hB0.trans (b3.mono hB0.size)
  have bF2 := bF.next b3
  have bR2 := bR.next b3
  have bS := Blk.new w1 28 (spC ⟨sd, sn, si⟩)
  have hl1 : w.heap.size + 2 ≤ w1.heap.size := by have := b1.size; simp at this; omega
  clear b1 b2 bF bR b3 hB0
  have hG := refGetT_any mi mb nx sd l _ _ (HV.out.below hB)
  have hEG := get_ents (HV.out.below hB).all sd
  have hP : ∀ ev, putN l ⟨sd, sn, si⟩ i ev = setN l { getN l sd with ents := withB (getN l sd).ents sn i, ev := ev } := fun _ => rfl
  obtain ⟨ag, ng, cg, hgs⟩ := get_slice HV.out sd
  generalize getN l sd = G at *
  generalize hasN l sd = r at *
  obtain ⟨gi, gk, gl, gd, gp, ge, gn⟩ := G
  dsimp only at hgs hEG hP hso hel
  subst hgs
  have HP := Lib.hid hP
  clear hP
  obtain ⟨⟨p0, p1, p2, p3⟩, _⟩ := bF2.four
  obtain ⟨⟨s0, s1, s2⟩, _⟩ := bS.three
  dsimp only at s0 s1 s2
  go_wp2_with fail
  refine hG.mono ?_
  rintro e w4 ⟨rfl, b4⟩
  clear hG p0 p1 p2 p3 s0 s1 s2
  have b5 := alloc_below w4 (.cells (ndC ⟨gi, gk, gl, gd, gp, .slice ag ng cg, gn⟩) 36)
  have b6 := b4.trans (b5.mono b4.size)
  have hB6 := hB.trans (b6.mono hB.size)
  have bF6 := bF2.next b6
  have bR6 := bR2.next b6
  have bS6 := bS.next b6
  have bX := Blk.new w4 36 (ndC ⟨gi, gk, gl, gd, gp, .slice ag ng cg, gn⟩)
  have hEG6 := hEG.below b6
  have hl4 : w1.heap.size + 1 ≤ w4.heap.size := by have := b4.size; simp at this; omega
  obtain ⟨⟨x0, x1, x2, x3, x4, x5⟩, _⟩ := bX.six
  dsimp only at x0 x1 x2 x3 x4 x5
  obtain ⟨⟨s0, s1, s2⟩, _⟩ := bS6.three
  dsimp only at s0 s1 s2
  clear b4 b5 b6 hEG bF2 bR2 bS hB
  go_wp2_with fail
  refine (refWith_any gn sn i _ _ hEG6 hso (by omega)).mono ?_
  rintro e w7 ⟨vn, rfl, hown, b7⟩
  obtain ⟨an, cn, rfl⟩ := own_slice hown
  have hoB : w4.heap.size < (w4.alloc (.cells (ndC ⟨gi, gk, gl, gd, gp, .slice ag ng cg, gn⟩) 36)).heap.size := by simp
  have hB7 := hB6.trans (b7.mono hB6.size)
  have bF7 := bF6.next b7
  have bR7 := bR6.next b7
  have bX7 := bX.next b7
  clear x0 x1 x2 x3 x4 x5 s0 s1 s2 b7 bF6 bR6 bX bS6 hEG6 hB6
  obtain ⟨⟨x0, x1, x2, x3, x4, x5⟩, g0, g1, g2, g3, g4, g5⟩ := bX7.six
  dsimp only at x0 x1 x2 x3 x4 x5
  generalize withB gn sn i = m at *
  have bX8 := bX7.set 5 (.slice an m.length cn)
  rw [nd_set5 gi gk gl gd gp (.slice ag ng cg) (.slice an m.length cn) gn m] at bX8
  have bF8 := bF7.other (B2 := w4.heap.size) (i := 5) (by omega) (.slice an m.length cn)
  have bR8 := bR7.other (B2 := w4.heap.size) (i := 5) (by omega) (.slice an m.length cn)
  have hB8 := hB7.setCell (p := ⟨w4.heap.size, 5, none⟩) (by show w.heap.size ≤ w4.heap.size; omega) (.slice an m.length cn)
  have hown8 := World.ownsRow.kept hown (grownBy_set w7 w4.heap.size 5 (.slice an m.length cn)) (own_not hown hoB)
  have hEN8 := own_ents hown8
  replace hoB : w.heap.size + 1 < (w4.alloc (.cells (ndC ⟨gi, gk, gl, gd, gp, .slice ag ng cg, gn⟩) 36)).heap.size := by omega
  clear hown
  generalize hw8 : World.setCell w7 ⟨w4.heap.size, 5, none⟩ (.slice an m.length cn) = w8 at *
  obtain ⟨⟨p0, p1, p2, p3⟩, _⟩ := bF8.four
  obtain ⟨⟨y0, y1, y2, y3, y4, y5⟩, _⟩ := bX8.six
  dsimp only at y0 y1 y2 y3 y4 y5
  go_wp2_with fail
  refine (refSetT_any mi mb nx l ⟨gi, gk, gl, gd, gp, .slice an m.length cn, m⟩ _ _ (HV.out.below hB8) hEN8 hr (by omega)).mono ?_
  rintro e w9 ⟨y, rfl, hnew⟩
  have b9 := hnew.2
  have hoE9 := own_keep hown8 b9
  obtain ⟨ay, cy, rfl⟩ := own_slice hnew.1
  have hB9 := hB8.trans (b9.mono hB8.size)
  have bR9 := bR8.next b9
  obtain ⟨⟨q0, q1, q2, q3⟩, e0, e1, e2, e3⟩ := bR9.four
  obtain ⟨W', hW', hb4, hg4⟩ := bR9.put4 (.int .i64 mi) (.int .i64 mb) (.int .i64 nx) (.slice ay (setN l ⟨gi, gk, gl, gd, gp, .slice an m.length cn, m⟩).length cy)
  have hbl := below_grown hB9 hg4 (Nat.le_refl _) (by omega)
  have hlt : w.heap.size + 1 < w8.heap.size := bR8.lt
  have hown9 := hnew.1.kept hg4 (own_not hnew.1 hlt)
  have hEW := own_ents (hoE9.kept hg4 (own_not hoE9 hoB))
  have hNW : Nds W' (.slice ay (setN l ⟨gi, gk, gl, gd, gp, .slice an m.length cn, m⟩).length cy) (setN l ⟨gi, gk, gl, gd, gp, .slice an m.length cn, m⟩) := own_nds hown9 fun z hz => by
    rcases mem_setN hz with rfl | h
    · exact hEW
    · exact (HV.out.below hbl).all z h
  clear p0 p1 p2 p3 y0 y1 y2 y3 y4 y5 x0 x1 x2 x3 x4 x5 hnew hoE9 hown8 hown9 b9 bR9 bX8 bF8 bR8
  go_wp2
  obtain ⟨⟨r0, r1, r2, r3⟩, _⟩ := hb4.four
  refine bodyPost_ret (v := .agg (fsC mi mb nx (.slice ay (setN l ⟨gi, gk, gl, gd, gp, .slice an m.length cn, m⟩).length cy))) (by simp [results, Try.f15, go_sem, r0, r1, r2, r3]) rfl ?_
  exact ⟨_, .slice an m.length cn, rfl, by rw [HP.out]; exact hNW, hbl⟩

set_option maxHeartbeats 4000000 in
theorem refTakeP_any (mi mb nx : Int) (l : List Nd) (p : List UInt8) (v : Value) (w : World) (hv : Nds w v l) (hp : p.length ≤ 100000) (hr : riseP l) (hso : sortP (getN l (atP l p).1.dir).ents) (hl : l.length ≤ 1000) (hel : (getN l (atP l p).1.dir).ents.length ≤ 1000) :
    Calls Try.prog 17 #[.agg (fsC mi mb nx v), .string ⟨p.toArray⟩] w fun e w' => ∃ y ev, e = .returned (.agg (fsC mi mb nx y)) ∧ Nds w' y (takeN l (atP l p).1 ev) ∧ Below w.heap.size w w' := by
  obtain ⟨a, ca, rfl⟩ := nds_slice hv
  have bF := (Blk.new w 24 (fsC mi mb nx (.slice a l.length ca))).alloc (.cells (fsC 0 0 0 (.slice none 0 0)) 24)
  have bR := Blk.new (w.alloc (.cells (fsC mi mb nx (.slice a l.length ca)) 24)) 24 (fsC 0 0 0 (.slice none 0 0))
  have hB0 : Below w.heap.size w ((w.alloc (.cells (fsC mi mb nx (.slice a l.length ca)) 24)).alloc (.cells (fsC 0 0 0 (.slice none 0 0)) 24)) := ((Below.refl _ w).alloc (Nat.le_refl _) _).alloc (by simp) _
  simp only [World.size_alloc] at bR
  have hA := refAt_any mi mb nx l p _ _ (hv.below hB0) hp
  have HV := Lib.hid hv
  clear hv
  generalize atP l p = q at *
  obtain ⟨⟨sd, sn, si⟩, er⟩ := q
  dsimp only at hA hso hel ⊢
  obtain ⟨⟨p0, p1, p2, p3⟩, _⟩ := bF.four
  go_enter Try.func17, Try.ntmps17
  go_wp2_with fail
  refine hA.mono ?_
  rintro e w1 ⟨rfl, b1⟩
  clear hA p0 p1 p2 p3
  have b2 := alloc_below w1 (.cells (spC ⟨sd, sn, si⟩) 28)
  have b3 := b1.trans (b2.mono b1.size)
  have hB := hB0.trans (b3.mono hB0.size)
  have bF2 := bF.next b3
  have bR2 := bR.next b3
  have bS := Blk.new w1 28 (spC ⟨sd, sn, si⟩)
  have hl1 : w.heap.size + 2 ≤ w1.heap.size := by have := b1.size; simp at this; omega
  clear b1 b2 bF bR b3 hB0
  have hG := refGetT_any mi mb nx sd l _ _ (HV.out.below hB)
  have hEG := get_ents (HV.out.below hB).all sd
  have hP : ∀ ev, takeN l ⟨sd, sn, si⟩ ev = setN l { getN l sd with ents := withoutB (getN l sd).ents sn, ev := ev } := fun _ => rfl
  obtain ⟨ag, ng, cg, hgs⟩ := get_slice HV.out sd
  generalize getN l sd = G at *
  generalize hasN l sd = r at *
  obtain ⟨gi, gk, gl, gd, gp, ge, gn⟩ := G
  dsimp only at hgs hEG hP hso hel
  subst hgs
  have HP := Lib.hid hP
  clear hP
  obtain ⟨⟨p0, p1, p2, p3⟩, _⟩ := bF2.four
  obtain ⟨⟨s0, s1, s2⟩, _⟩ := bS.three
  dsimp only at s0 s1 s2
  go_wp2_with fail
  refine hG.mono ?_
  rintro e w4 ⟨rfl, b4⟩
  clear hG p0 p1 p2 p3 s0 s1 s2
  have b5 := alloc_below w4 (.cells (ndC ⟨gi, gk, gl, gd, gp, .slice ag ng cg, gn⟩) 36)
  have b6 := b4.trans (b5.mono b4.size)
  have hB6 := hB.trans (b6.mono hB.size)
  have bF6 := bF2.next b6
  have bR6 := bR2.next b6
  have bS6 := bS.next b6
  have bX := Blk.new w4 36 (ndC ⟨gi, gk, gl, gd, gp, .slice ag ng cg, gn⟩)
  have hEG6 := hEG.below b6
  have hl4 : w1.heap.size + 1 ≤ w4.heap.size := by have := b4.size; simp at this; omega
  obtain ⟨⟨x0, x1, x2, x3, x4, x5⟩, _⟩ := bX.six
  dsimp only at x0 x1 x2 x3 x4 x5
  obtain ⟨⟨s0, s1, s2⟩, _⟩ := bS6.three
  dsimp only at s0 s1 s2
  clear b4 b5 b6 hEG bF2 bR2 bS hB
  go_wp2_with fail
  refine (refWithoutS_any gn sn _ _ hEG6 hso (by omega)).mono ?_
  rintro e w7 ⟨vn, rfl, hown, b7⟩
  obtain ⟨an, cn, rfl⟩ := own_slice hown
  have hoB : w4.heap.size < (w4.alloc (.cells (ndC ⟨gi, gk, gl, gd, gp, .slice ag ng cg, gn⟩) 36)).heap.size := by simp
  have hB7 := hB6.trans (b7.mono hB6.size)
  have bF7 := bF6.next b7
  have bR7 := bR6.next b7
  have bX7 := bX.next b7
  clear x0 x1 x2 x3 x4 x5 s0 s1 s2 b7 bF6 bR6 bX bS6 hEG6 hB6
  obtain ⟨⟨x0, x1, x2, x3, x4, x5⟩, g0, g1, g2, g3, g4, g5⟩ := bX7.six
  dsimp only at x0 x1 x2 x3 x4 x5
  generalize withoutB gn sn = m at *
  have bX8 := bX7.set 5 (.slice an m.length cn)
  rw [nd_set5 gi gk gl gd gp (.slice ag ng cg) (.slice an m.length cn) gn m] at bX8
  have bF8 := bF7.other (B2 := w4.heap.size) (i := 5) (by omega) (.slice an m.length cn)
  have bR8 := bR7.other (B2 := w4.heap.size) (i := 5) (by omega) (.slice an m.length cn)
  have hB8 := hB7.setCell (p := ⟨w4.heap.size, 5, none⟩) (by show w.heap.size ≤ w4.heap.size; omega) (.slice an m.length cn)
  have hown8 := World.ownsRow.kept hown (grownBy_set w7 w4.heap.size 5 (.slice an m.length cn)) (own_not hown hoB)
  have hEN8 := own_ents hown8
  replace hoB : w.heap.size + 1 < (w4.alloc (.cells (ndC ⟨gi, gk, gl, gd, gp, .slice ag ng cg, gn⟩) 36)).heap.size := by omega
  clear hown
  generalize hw8 : World.setCell w7 ⟨w4.heap.size, 5, none⟩ (.slice an m.length cn) = w8 at *
  obtain ⟨⟨p0, p1, p2, p3⟩, _⟩ := bF8.four
  obtain ⟨⟨y0, y1, y2, y3, y4, y5⟩, _⟩ := bX8.six
  dsimp only at y0 y1 y2 y3 y4 y5
  go_wp2_with fail
  refine (refSetT_any mi mb nx l ⟨gi, gk, gl, gd, gp, .slice an m.length cn, m⟩ _ _ (HV.out.below hB8) hEN8 hr (by omega)).mono ?_
  rintro e w9 ⟨y, rfl, hnew⟩
  have b9 := hnew.2
  have hoE9 := own_keep hown8 b9
  obtain ⟨ay, cy, rfl⟩ := own_slice hnew.1
  have hB9 := hB8.trans (b9.mono hB8.size)
  have bR9 := bR8.next b9
  obtain ⟨⟨q0, q1, q2, q3⟩, e0, e1, e2, e3⟩ := bR9.four
  obtain ⟨W', hW', hb4, hg4⟩ := bR9.put4 (.int .i64 mi) (.int .i64 mb) (.int .i64 nx) (.slice ay (setN l ⟨gi, gk, gl, gd, gp, .slice an m.length cn, m⟩).length cy)
  have hbl := below_grown hB9 hg4 (Nat.le_refl _) (by omega)
  have hlt : w.heap.size + 1 < w8.heap.size := bR8.lt
  have hown9 := hnew.1.kept hg4 (own_not hnew.1 hlt)
  have hEW := own_ents (hoE9.kept hg4 (own_not hoE9 hoB))
  have hNW : Nds W' (.slice ay (setN l ⟨gi, gk, gl, gd, gp, .slice an m.length cn, m⟩).length cy) (setN l ⟨gi, gk, gl, gd, gp, .slice an m.length cn, m⟩) := own_nds hown9 fun z hz => by
    rcases mem_setN hz with rfl | h
    · exact hEW
    · exact (HV.out.below hbl).all z h
  clear p0 p1 p2 p3 y0 y1 y2 y3 y4 y5 x0 x1 x2 x3 x4 x5 hnew hoE9 hown8 hown9 b9 bR9 bX8 bF8 bR8
  go_wp2
  obtain ⟨⟨r0, r1, r2, r3⟩, _⟩ := hb4.four
  refine bodyPost_ret (v := .agg (fsC mi mb nx (.slice ay (setN l ⟨gi, gk, gl, gd, gp, .slice an m.length cn, m⟩).length cy))) (by simp [results, Try.f17, go_sem, r0, r1, r2, r3]) rfl ?_
  exact ⟨_, .slice an m.length cn, rfl, by rw [HP.out]; exact hNW, hbl⟩
end Go.Proofs.Ytbdgcpimnkieiaa
